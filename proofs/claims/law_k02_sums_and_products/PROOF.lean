import PyProof.Rows.All
import Wide.All
import OpenK.AllK
import Wide.FinOn
import HandS.Base
import HandS.Call
import HandS.List
import HandS.Ends
import HandS.Words
import HandS.More
import KE.KOpsOwn
import HandS.IsInst
import HandS.Property
import HandS.Gcd
import HandS.Wide
import HandS.ClsMeth
import HandS.Defaults
import PyProof.SeqRoads
import PyProof.AutoListH
import PyProof.FactsAll.int
import PyProof.Rows.RuleN_abs
import PyProof.Rows.ReprR
import PyProof.FitsInt
import HandS.ForMost
import HandS.Style
import PySem.Challenge.RW_sixasone_k02_sums_and_products
set_option Elab.async false
set_option linter.all false
set_option maxRecDepth 100000
set_option maxHeartbeats 2000000
namespace RR
open PySem PySem.Spec PyProof.Rows L2

/-- no display of an object is under way -/
abbrev Free (A : Around) : Prop := A.guards = some []
theorem free_deeper {A : Around} (env : Env) (h : Free A) : Free (A.deeper env) := h

/-- a def of the text keeps its promise wherever no display is under way; C: how an error lies behind the call -/
def FnG (P : Program) (w : World) (K : PySem.W.Frag) (mg : Str → Option Value) (base : Heap) (C : CXT) (k : Nat) (f : Addr) (g : Sp) : Prop :=
  ∀ (A : Around) (out : List Env) (s : Shared) (H : Hp) (us : List Value) (vs : List V) (Q : VK) (E : XK), Room k A → Free A → Env0 P w K mg base A out s H → Vals vs us → g vs H Q E →
    codeAny (model P w) A (.call (.ref f) ⟨us, []⟩) (CR C out P w H s Q E) s

section
variable {P : Program} {w : World} {K : PySem.W.Frag} {mg : Str → Option Value} {base : Heap} {C : CXT} {j k : Nat} {f : Addr} {g g' : Sp}
theorem FnG.mono (F : FnG P w K mg base C j f g) (h : j ≤ k) : FnG P w K mg base C k f g := fun A o s H us vs Q E hr => F A o s H us vs Q E (hr.mono h)
theorem FnG.of (F : FnR P w K mg base C k f g) : FnG P w K mg base C k f g := fun A o s H us vs Q E hr _ e0 r h => F A o s H us vs Q E hr e0 r h
/-- every argument is given -/
theorem rawAll {fd : FuncData} {ps : List Str} (F : FnOk P w K mg base C k f fd ps g) (hb : Binds K fd ps []) : FnR P w K mg base C k f g :=
  (F.raw hb .nil).imp fun vs H Q E h => by show g (vs ++ []) H Q E; rw [List.append_nil]; exact h

/-- a def by its body, where no display is under way -/
theorem okGX {x qual : Str} {st : Stmt} {fd : FuncData} {N ps : List Str} (F : Fun K x qual st f fd) (S : FnScope N ps (defScope st)) (hb : Binds K fd ps []) (len : ∀ vs H Q E, g vs H Q E → vs.length = ps.length)
    (body : ∀ (cdv : Value) (A : Around) (out : List Env) (s : Shared) (H : Hp) (vs : List V) (Q : VK) (E : XK), Room k (A.deeper (envOfC qual (defScope st) s.heap.objs.size f cdv)) → Free (A.deeper (envOfC qual (defScope st) s.heap.objs.size f cdv)) → g vs H Q E →
      ∃ t, PSs (cxOf C P w K mg base N qual (defScope st) f cdv A out s H E) (defBody st) t ∧ t { nx := fun _ H' => Q .non H', rt := Q } (start N vs) H) : FnG P w K mg base C (k + 1) f g := by
  obtain ⟨oc, od, kV, doc, pm, an, cdv, ct, osl, rfl, lk, hcd⟩ := F.ex
  intro A out s H us vs Q E hr hfree e0 r hg
  have hl : vs.length = ps.length := len _ _ _ _ hg
  have kin : K.In s.heap := e0.mod.kin.keeps fun b o e => (e0.bs b o e).1
  have lim : s.heap.NoLimit := e0.mod.nolimit.keeps fun b o e => (e0.bs b o e).1
  have hu : (us ++ []).length = ps.length := by rw [List.append_nil, ← r.length]; exact hl
  have bind0 := hb s us kin hu
  rw [List.append_nil] at bind0
  have hkind : ∀ y ∈ ps.zip us, (defScope st).names.lookup y.1 = some .local ∨ ((defScope st).names.lookup y.1 = some .cell ∧ ((cellsFrom (s.heap.objs.size + 1) (defScope st).names []).lookup y.1).isSome = true) := by
    rintro ⟨n, v⟩ hy
    rcases S.par n (List.of_mem_zip hy).1 with q | q
    · exact .inl q
    · exact .inr ⟨q, PySem.W.cellsFrom_some _ _ _ (.inl q)⟩
  refine codeAny_call_function hr.depth (kin _ _ lk) rfl S.co S.gen rfl (PySem.W.codeRec_of kin hcd) (bind0 _ _ _ _ ?_)
  refine wpAny_newFunctionEnv_cells S.kind hkind fun env he s1 xx => ?_
  subst he
  refine ⟨lim.keeps xx.toInCall.keep, codeAny_func ?_⟩
  obtain ⟨t, ht, hq⟩ := body cdv A out s H vs Q E (hr.deeper _) (free_deeper _ hfree) hg
  have I : Inv (cxOf C P w K mg base N qual (defScope st) f cdv A out s H E) [] (start N vs) H s1 := inv_start S hr.hd e0 hl r xx
  refine wpAny_mono (ht.run [] s1 (start N vs) H _ I hq) (fun fl s' hs => ?_) fun e s' hs => hs
  cases fl with
  | ret u =>
    obtain ⟨v, σ', H', J, rv, q⟩ := hs
    exact ⟨v, H', J.os, J.bare, J.base, J.hok, rv, q⟩
  | next =>
    obtain ⟨σ', H', J, q⟩ := hs
    exact ⟨V.non, H', J.os, J.bare, J.base, J.hok, rfl, q⟩
  | brk =>
    obtain ⟨_, _, _, q⟩ := hs
    exact q.elim
  | cont =>
    obtain ⟨_, _, _, q⟩ := hs
    exact q.elim
/-- the same for a def that nothing leaves -/
theorem okG {x qual : Str} {st : Stmt} {fd : FuncData} {N ps : List Str} (F : Fun K x qual st f fd) (S : FnScope N ps (defScope st)) (hb : Binds K fd ps []) (len : ∀ vs H Q E, g vs H Q E → vs.length = ps.length)
    (body : ∀ (cdv : Value) (A : Around) (out : List Env) (s : Shared) (H : Hp) (vs : List V) (Q : VK) (E : XK), Room k (A.deeper (envOfC qual (defScope st) s.heap.objs.size f cdv)) → Free (A.deeper (envOfC qual (defScope st) s.heap.objs.size f cdv)) → g vs H Q E →
      ∃ t, PSs (cxOf CX0 P w K mg base N qual (defScope st) f cdv A out s H E).nox (defBody st) t ∧ t { nx := fun _ H' => Q .non H', rt := Q } (start N vs) H) : FnG P w K mg base CX0 (k + 1) f g :=
  okGX F S hb len fun cdv A out s H vs Q E h1 h2 h3 => by
    obtain ⟨t, a, b⟩ := body cdv A out s H vs Q E h1 h2 h3
    exact ⟨t, a.nox, b⟩
end

section
variable {X : Cx} {C : CXT} {pins : List (Addr × Obj)} {σ : L2.St} {H : Hp} {s : Shared} {k : Nat} {f : Addr} {g : Sp} {E : XK} {x : Str} {p pos : Pos} {e : Expr} {es : List Expr} {t : TA}
/-- how a callee's end is read by its caller -/
theorem after0 {A : Around} {Q : VK} {us : List Value} {fa : Addr} (hx : Passes C X E) (I : Inv X pins σ H s) (h : codeAny (model X.prog X.w) A (.call (.ref fa) ⟨us, []⟩) (CR C X.stack X.prog X.w H s Q E) s) :
    codeAny (model X.prog X.w) A (.call (.ref fa) ⟨us, []⟩) (fun r s' => match r with | .ok (.ret v) => EP X pins σ Q v s' | .ok _ => False | .error e => X.xe e s') s :=
  codeAny_mono h fun r s' hq => match r, hq with
    | .ok (.ret _), z => I.after z
    | .ok .next, z => z.elim
    | .ok .brk, z => z.elim
    | .ok .cont, z => z.elim
    | .error _, z => hx _ _ _ _ _ _ I z
theorem run_G {Q : VK} {us : List Value} {vs : List V} (F : FnG X.prog X.w X.K X.mg X.base C k f g) (hr : Room k X.A) (fr : Free X.A) (hx : Passes C X E) (I : Inv X pins σ H s) (r : Vals vs us) (h : g vs H Q E) :
    wpAny (model X.prog X.w) X.A (call (.ref f) us) (EP X pins σ Q) X.xe s := wpAny_call (after0 hx I (F X.A X.stack s H us vs Q E hr fr I.env0 r h))
/-- f(e, ..), f a def that wants no display under way -/
theorem pe_callG (F : FnG X.prog X.w X.K X.mg X.base C k f g) (hr : Room k X.A) (fr : Free X.A) (hg : Gl X x) (hm : X.mg x = some (.ref f)) (hk : PySem.W.keepIn X.K (.ref f) = true) (hx : Passes C X E) (ha : PA X (e :: es) t)
    (hdb : (x == ("__debug__" : Str)) = false := by decide) (he : starEach (e :: es) X.env = (false, eval e X.env) :: starEach es X.env := by rfl) (hpl : (backTo pos (starEach es X.env)).any (·.1) = false := by rfl) :
    PE X (.Call (.Name x p) (e :: es) [] pos) (tCall g [] E t) := by
  constructor
  intro pins s σ H Q I h
  apply wpAny_Call_Name_kw
  refine ld_glob I hg hm ?_ hdb
  refine PySem.W.callWith_K (h₀ := X.base) I.ok.mod.kin hk (thn (ha.run pos pins s σ H _ I h) ?_) he hpl
  rintro us s1 ⟨vs, H1, I1, r, q⟩
  refine ⟨I1.kIn, run_G F hr fr hx I1 r ?_⟩
  have q' : g (vs ++ []) H1 Q E := q
  rw [List.append_nil] at q'
  exact q'
/-- f(), likewise -/
theorem pe_callG0 (F : FnG X.prog X.w X.K X.mg X.base C k f g) (hr : Room k X.A) (fr : Free X.A) (hg : Gl X x) (hm : X.mg x = some (.ref f)) (hk : PySem.W.keepIn X.K (.ref f) = true) (hx : Passes C X E)
    (hdb : (x == ("__debug__" : Str)) = false := by decide) : PE X (.Call (.Name x p) [] [] pos) (tCall g [] E tNil) := by
  constructor
  intro pins s σ H Q I h
  apply wpAny_Call_Name_kw
  refine ld_glob I hg hm ?_ hdb
  exact PySem.W.callWith_K0 I.kIn hk (run_G (us := []) (vs := []) F hr fr hx I .nil h)
/-- f(e, ..), f a def whose arguments are all given -/
theorem pe_callR (F : FnR X.prog X.w X.K X.mg X.base C k f g) (hr : Room k X.A) (hg : Gl X x) (hm : X.mg x = some (.ref f)) (hk : PySem.W.keepIn X.K (.ref f) = true) (hx : Passes C X E) (ha : PA X (e :: es) t)
    (hdb : (x == ("__debug__" : Str)) = false := by decide) (he : starEach (e :: es) X.env = (false, eval e X.env) :: starEach es X.env := by rfl) (hpl : (backTo pos (starEach es X.env)).any (·.1) = false := by rfl) :
    PE X (.Call (.Name x p) (e :: es) [] pos) (tCall g [] E t) := by
  constructor
  intro pins s σ H Q I h
  apply wpAny_Call_Name_kw
  refine ld_glob I hg hm ?_ hdb
  refine PySem.W.callWith_K (h₀ := X.base) I.ok.mod.kin hk (thn (ha.run pos pins s σ H _ I h) ?_) he hpl
  rintro us s1 ⟨vs, H1, I1, r, q⟩
  refine ⟨I1.kIn, wpAny_call (run_fnR F hr hx I1 r ?_)⟩
  have q' : g (vs ++ []) H1 Q E := q
  rw [List.append_nil] at q'
  exact q'
/-- an expression that is never asked -/
theorem pe_never {e : Expr} : PE X e (fun _ _ _ => False) := ⟨fun _ _ _ _ _ _ h => h.elim⟩
theorem pt_never {e : Expr} : PT X e (fun _ _ _ => False) := ⟨fun _ _ _ _ _ _ h => h.elim⟩
end
end RR
set_option maxHeartbeats 2000000
namespace RR
open PySem PySem.Spec PyProof.Rows L2

/-- the heap behind the top, with the script alone tracked (or nothing, where the script is one of the text's own lists) -/
def hpOf (a : Addr) (vs : List Value) (ns : List Int) (own : Bool) : Hp := fun b => if own = false ∧ b = a then some (.frz { cls := .type "list", data := .seq vs.toArray } (.lst (ns.map V.int))) else none
theorem hp_own (a : Addr) (vs : List Value) (ns : List Int) (b : Addr) : hpOf a vs ns true b = none := if_neg fun z => by cases z.1
theorem hp_at (a : Addr) (vs : List Value) (ns : List Int) : hpOf a vs ns false a = some (.frz { cls := .type "list", data := .seq vs.toArray } (.lst (ns.map V.int))) := if_pos ⟨rfl, rfl⟩
theorem hp_off {a b : Addr} {vs : List Value} {ns : List Int} {o : Bool} (h : b ≠ a) : hpOf a vs ns o b = none := if_neg fun z => h z.2
theorem hp_only {a b : Addr} {vs : List Value} {ns : List Int} {o : Bool} {u : HO} (h : hpOf a vs ns o b = some u) : b = a ∧ o = false ∧ u = .frz { cls := .type "list", data := .seq vs.toArray } (.lst (ns.map V.int)) := by
  by_cases hb : o = false ∧ b = a
  · have z := (if_pos hb).symm.trans h
    exact ⟨hb.2, hb.1, (Option.some.inj z).symm⟩
  · have z := (if_neg hb).symm.trans h
    cases z

/-- the law's own call, from its promise where no display is under way -/
theorem lawG {P : Program} {w : World} {K : PySem.W.Frag} {mg mb : Str → Option Value} {k : Nat} {fa a : Addr} {g : Sp} {s : Shared} {vs : List Value} {ns : List Int}
    (kin : K.In s.heap) (hns : s.heap.Ns mainGlobals mg) (hb : s.heap.Ns builtinsNs mb) (hbb : ∀ x : Str, x ≠ "__name__" → mb x = bootBuiltins x) (lim : s.heap.NoLimit) (hgen : s.gens = #[])
    (ha : s.heap.get? a = some { cls := .type "list", data := .seq vs.toArray }) (hi : IntsAre vs ns) (hl : ns.length ≤ sizeLine) (hr : Room k callerA)
    (F : ∀ base : Heap, K.In base → base.Ns mainGlobals mg → FnG P w K mg base CX0 k fa g)
    (sp : ∀ H : Hp, SqL K H a (ns.map V.int) → g [.ref a] H (fun v _ => v = .bl true) E0) :
    codeAny (model P w) callerA (.call (.ref fa) ⟨[.ref a], []⟩) (fun r s' => r = .ok (.ret (.bool true)) ∧ OldK s.heap s'.heap ∧ s'.os = s.os ∧ AllBare s'.gens) s := by
  have rv := vals_ints hi
  have main : ∀ o : Bool, (o = true → ∃ ob, K.lookup a = some ob) → (o = false → K.lookup a = none) →
      codeAny (model P w) callerA (.call (.ref fa) ⟨[.ref a], []⟩) (fun r s' => r = .ok (.ret (.bool true)) ∧ OldK s.heap s'.heap ∧ s'.os = s.os ∧ AllBare s'.gens) s := by
    intro o h1 h0
    have hok : HOk P w (hpOf a vs ns o) s.heap := fun b u z => by
      obtain ⟨rfl, -, rfl⟩ := hp_only z
      exact ⟨ha, by rw [List.length_map]; exact hl, vs, _, rv, ha⟩
    have seq : SqL K (hpOf a vs ns o) a (ns.map V.int) := by
      cases o with
      | false => exact .inl (.inr ⟨_, hp_at a vs ns⟩)
      | true =>
        obtain ⟨ob, e⟩ := h1 rfl
        have e2 := kin a ob e
        rw [ha] at e2
        cases e2
        exact .inr ⟨_, vs.toArray, _, e, rfl, rfl, rfl, by rw [List.size_toArray, hi.length]; exact hl, by simpa using rv⟩
    have keepH : ∀ {b : Addr} {ob : Obj}, s.heap.get? b = some ob → hpOf a vs ns o b = none → (hidT s.heap (hpOf a vs ns o)).get? b = some ob := fun e n => hidT_get e n
    have off : ∀ {b : Addr} {ob : Obj} {es : Array DictEntry} {ep : Nat}, s.heap.get? b = some ob → ob.data = .dict es ep → hpOf a vs ns o b = none := by
      intro b ob es ep e d
      refine hp_off fun z => ?_
      rw [z, ha] at e
      cases e
      cases (show Data.seq vs.toArray _ = Data.dict es ep from d)
    have nsH : ∀ {b : Addr} {m : Str → Option Value}, s.heap.Ns b m → (hidT s.heap (hpOf a vs ns o)).Ns b m := by
      rintro b m ⟨ob, es, ep, e, d, r⟩
      exact ⟨ob, es, ep, keepH e (off e d), d, r⟩
    have kinH : K.In (hidT s.heap (hpOf a vs ns o)) := fun b ob e => keepH (kin b ob e) (by
      cases q : hpOf a vs ns o b with
      | none => rfl
      | some u =>
        obtain ⟨rfl, z, -⟩ := hp_only q
        rw [h0 z] at e
        cases e)
    have md : Mod K mg (hidT s.heap (hpOf a vs ns o)) := ⟨kinH, nsH hns, ⟨mb, nsH hb, hbb⟩, by
      obtain ⟨mc, y1, y2⟩ := lim
      exact ⟨mc, nsH y1, y2⟩⟩
    have e0 : Env0 P w K mg (hidT s.heap (hpOf a vs ns o)) callerA [] s (hpOf a vs ns o) :=
      { frames := rfl, mod := md, bs := fun b ob e => of_hidT e, bsz := Nat.le_of_eq (hidT_size _ _), funs := trivial, frf := fun b z => absurd (show b ∈ ([] : List Addr) from z) (by simp), hok := hok, bare := .of_eq hgen }
    have z := F _ kinH (nsH hns) callerA [] s (hpOf a vs ns o) [.ref a] [.ref a] _ E0 hr rfl e0 (.cons rfl .nil) (sp _ seq)
    refine codeAny_mono z fun r s' h => ?_
    match r, h with
    | .error _, h => exact (show False from h).elim
    | .ok .next, h => exact h.elim
    | .ok .brk, h => exact h.elim
    | .ok .cont, h => exact h.elim
    | .ok (.ret u), h =>
      obtain ⟨v, H', os, bare, un, hok', r', q⟩ := h
      cases (show v = .bl true from q)
      cases (show u = Value.bool true from r')
      refine ⟨rfl, OldK.of_keep fun b ob e => ?_, os, bare⟩
      cases q2 : hpOf a vs ns o b with
      | none => exact un.keep b ob e q2 (fun z => absurd (show b ∈ ([] : List Addr) from z) (by simp)) (by simp)
      | some u =>
        obtain ⟨rfl, -, rfl⟩ := hp_only q2
        have y := (hok' b _ (un.frzs b _ _ q2)).1
        rw [ha] at e
        cases e
        exact y
  cases hk : K.lookup a with
  | some ob => exact main true (fun _ => ⟨ob, hk⟩) fun z => by cases z
  | none => exact main false (fun z => by cases z) fun _ => hk

/-- the goal that k_head leaves, from the law's promise -/
theorem walkG {l : PySem.W.OpenLaw} {n k : Nat} {q : Program} {loose : List Str} {XP : (Str → Option Value) → Heap → Prop} {YP : World → Heap → Prop} {d : DefRec} {K : Params → PySem.W.Frag} {g : PySem.W.Frag → Sp}
    (hn : l.most = some n) (hn2 : n ≤ sizeLine) (hdf : d.params.defaults = []) (hr : Room k callerA) (hY : ∀ (w : World) (h : Heap), YP w h → (K w.params).In h)
    (F : ∀ (w : World) (mg : Str → Option Value) (fa : Addr) (h : Heap), (K w.params).In h → h.Ns mainGlobals mg → mg d.name = some (.ref fa) →
      ∀ base : Heap, (K w.params).In base → base.Ns mainGlobals mg → FnG l.prog w (K w.params) mg base CX0 k fa (g (K w.params)))
    (sp : ∀ (K : PySem.W.Frag) (H : Hp) (a : Addr) (ns : List Int), ns.length ≤ n → SqL K H a (ns.map V.int) → g K [.ref a] H (fun v _ => v = .bl true) E0) :
    PySem.W.WalkO q loose XP YP l.row.toRowW d [] (fun f vs => PySem.call f vs) := by
  refine Att.attach_call hn hdf fun w s0 s mg mb fa o pm cd doc a vs ns G Y ho hd hcd hmg hobj hints hlen hg => ?_
  have kin := hY w _ Y
  exact lawG kin G.T.g G.T.b G.T.builtins G.T.nolimit hg hobj hints (Nat.le_trans hlen hn2) hr (F w mg fa _ kin G.T.g hmg) fun H hS => sp _ H a ns hlen hS
end RR
set_option maxHeartbeats 4000000
namespace RR
open PySem PySem.Spec PyProof.Rows L2

/-- an operator's method has answered -/
theorem back_of {P : Value → Shared → Prop} {z : V} {v : Value} {s' : Shared} (r : RelV z v) (h : P v s') : PySem.W.CmpBack P v s' := by
  cases z with
  | non => obtain rfl : v = .none := r; exact h
  | bl b => obtain rfl : v = .bool b := r; exact h
  | int i => obtain ⟨t, rfl⟩ := r; exact h
  | str x => obtain ⟨t, rfl⟩ := r; exact h
  | byt b => obtain ⟨t, rfl⟩ := r; exact h
  | flt b => obtain ⟨t, rfl⟩ := r; exact h
  | ref a => obtain rfl : v = .ref a := r; exact h
  | ty n => obtain rfl : v = .type n := r; exact h

/-- an int, or an instance of the class at C -/
def IntOr (C : Addr) (H : Hp) (y : V) : Prop := (∃ i, y = .int i) ∨ ∃ b dx fs, y = .ref b ∧ H b = some (.ins C dx fs)

/-- what the text says of the class at C and one of its operators -/
structure BinOf (K : PySem.W.Frag) (C : Addr) (op : Operator) (f : Addr) (rc fo ro : Option Value) : Prop where
  sf : PySem.W.selfFirst K C = true
  hs : PySem.W.findIn K (.ref C) (PySem.dunder op.info.2) = some (some (.ref f))
  hf : PySem.W.isFn K (.ref f) = true
  hr : PySem.W.findIn K (.ref C) (dunderR op.info.2) = some rc
  hp : rc = none ∨ ∃ q : Addr, rc = some (.ref q)
  h1 : PySem.W.findIn K (.type "int") (PySem.dunder op.info.2) = some fo
  h2 : PySem.W.findIn K (.type "int") (dunderR op.info.2) = some ro
  sub : PySem.W.subIn K (.type "int") (.ref C) = some false

section
variable {X : Cx} {CX : CXT} {pins : List (Addr × Obj)} {σ : L2.St} {H : Hp} {s : Shared} {C f : Addr} {n : Nat} {g : Sp} {E : XK} {op : Operator} {rc fo ro : Option Value}

theorem inst_of {a dx : Addr} {fs : List (Str × V)} (I : Inv X pins σ H s) (ea : H a = some (.ins C dx fs)) : ∃ od, PySem.W.InstAt s.heap a (PySem.W.instObj C dx) C (some od) := by
  obtain ⟨mA, O, _⟩ := ins_get I.hok ea
  obtain ⟨od, J, _⟩ := O.look
  exact ⟨od, J⟩

/-- x op y, x an instance of the class, y an int or another one: the method's promise -/
def rOpL (C : Addr) (g : Sp) (E : XK) : R2 := fun x y H Q => (∃ a dx fs, x = .ref a ∧ H a = some (.ins C dx fs)) ∧ IntOr C H y ∧ g [x, y] H Q E
theorem op_ownL (T : BinOf X.K C op f rc fo ro) (F : FnR X.prog X.w X.K X.mg X.base CX n f g) (hr : Room n X.A) (hx : Passes CX X E) : OpR X (binaryOp op) (rOpL C g E) := by
  intro pins s σ H x y v u Q I rx ry h
  obtain ⟨⟨a, dx, fs, rfl, ea⟩, hy, q⟩ := h
  obtain rfl : v = .ref a := rx
  obtain ⟨od, J⟩ := inst_of I ea
  obtain ⟨m, fr⟩ := I.fr
  have run : wpAny (model X.prog X.w) X.A (call (.ref f) [.ref a, u]) (PySem.W.CmpBack (EP X pins σ Q)) X.xe s := by
    refine wpAny_mono (wpAny_call (run_fnR (us := [.ref a, u]) (vs := [.ref a, y]) F hr hx I (.cons rfl (.cons ry .nil)) q)) ?_ fun _ _ z => z
    rintro z s2 ⟨z', H2, I2, rz, qz⟩
    exact back_of rz ⟨z', H2, I2, rz, qz⟩
  rcases hy with ⟨i, rfl⟩ | ⟨b, dy, gs, rfl, eb⟩
  · obtain ⟨t, rfl⟩ := ry
    exact PySem.W.ksp_binT fr I.ok.mod.kin J rfl T.sf T.hs T.hf T.hr T.hp T.h1 T.h2 T.sub run
  · obtain rfl : u = .ref b := ry
    obtain ⟨od', J'⟩ := inst_of I eb
    exact PySem.W.binop_K fr I.ok.mod.kin J J'.type T.sf T.hs T.hf run

/-- -x, x an instance -/
def rNegO (C : Addr) (g : Sp) (E : XK) : V → Hp → VK → Prop := fun x H Q => (∃ a dx fs, x = .ref a ∧ H a = some (.ins C dx fs)) ∧ g [x] H Q E
theorem un_negO (hs : PySem.W.findIn X.K (.ref C) "__neg__" = some (some (.ref f))) (hf : PySem.W.isFn X.K (.ref f) = true) (F : FnR X.prog X.w X.K X.mg X.base CX n f g) (hr : Room n X.A) (hx : Passes CX X E) : UnR X (unaryOp .USub) (rNegO C g E) := by
  intro pins s σ H x v Q I rx h
  obtain ⟨⟨a, dx, fs, rfl, ea⟩, q⟩ := h
  obtain rfl : v = .ref a := rx
  obtain ⟨od, J⟩ := inst_of I ea
  obtain ⟨m, fr⟩ := I.fr
  exact PySem.W.ksp_neg fr I.ok.mod.kin J hs hf (wpAny_call (run_fnR (us := [.ref a]) (vs := [.ref a]) F hr hx I (.cons rfl .nil) q))

/-- x < y and its like, x an instance, y an int or another one -/
theorem op_cmpL {cop : CmpOp} (hop : ∀ a b, compareOp cop a b = richCompare cop a b) (hs : PySem.W.findIn X.K (.ref C) (cmpInfo cop).2.1 = some (some (.ref f))) (hf : PySem.W.isFn X.K (.ref f) = true)
    (n1 : PySem.W.notFirst X.K C (.type "int") = true) (n2 : PySem.W.notFirst X.K C (.ref C) = true) (F : FnR X.prog X.w X.K X.mg X.base CX n f g) (hr : Room n X.A) (hx : Passes CX X E) : OpR X (compareOp cop) (rOpL C g E) := by
  intro pins s σ H x y v u Q I rx ry h
  obtain ⟨⟨a, dx, fs, rfl, ea⟩, hy, q⟩ := h
  obtain rfl : v = .ref a := rx
  obtain ⟨od, J⟩ := inst_of I ea
  obtain ⟨m, fr⟩ := I.fr
  have run : wpAny (model X.prog X.w) X.A (call (.ref f) [.ref a, u]) (PySem.W.CmpBack (EP X pins σ Q)) X.xe s := by
    refine wpAny_mono (wpAny_call (run_fnR (us := [.ref a, u]) (vs := [.ref a, y]) F hr hx I (.cons rfl (.cons ry .nil)) q)) ?_ fun _ _ z => z
    rintro z s2 ⟨z', H2, I2, rz, qz⟩
    exact back_of rz ⟨z', H2, I2, rz, qz⟩
  rw [hop]
  rcases hy with ⟨i, rfl⟩ | ⟨b, dy, gs, rfl, eb⟩
  · obtain ⟨t, rfl⟩ := ry
    exact PySem.W.cmp_K (tb := .type "int") hr.units0 fr I.ok.mod.kin J (PySem.W.Looks.of_pure rfl) n1 hs hf run
  · obtain rfl : u = .ref b := ry
    obtain ⟨od', J'⟩ := inst_of I eb
    exact PySem.W.cmp_K (tb := .ref C) hr.units0 fr I.ok.mod.kin J J'.type n2 hs hf run
end
end RR
set_option maxHeartbeats 4000000
namespace RR
open PySem PySem.Spec PyProof.Rows L2

/-- the int's own method declines an instance -/
def Declines (op : Operator) : Prop := ∃ (id : String) (B : Builtin), Slot "int" (PySem.dunder op.info.2) id ∧ entryFor table id = some B ∧ (∀ a b, argsOk id ⟨[a, b], []⟩) ∧
  ∀ (a : Int) (t : Tok) (l C dx : Addr), Meets (B ⟨[.int a t, .ref l], []⟩) (fun _ R s => s.heap.get? l = some (PySem.W.instObj C dx) ∧ R (.ok (.ret Value.notImplemented)) s)
theorem dec_add : Declines .Add := ⟨_, _, PySem.F.slot_int_add, PySem.F.entry_int_add, fun a b => PySem.F.args_int_add_2 a b, fun a t l C dx =>
  .of_wp fun prog w A R s h => by obtain ⟨hp, g, d, tk, os⟩ := s; obtain ⟨hl, h⟩ := h; unfold PySem.W.instObj at hl; wp_walk; exact ⟨_, rfl, h⟩⟩
theorem dec_sub : Declines .Sub := ⟨_, _, PySem.F.slot_int_sub, PySem.F.entry_int_sub, fun a b => PySem.F.args_int_sub_2 a b, fun a t l C dx =>
  .of_wp fun prog w A R s h => by obtain ⟨hp, g, d, tk, os⟩ := s; obtain ⟨hl, h⟩ := h; unfold PySem.W.instObj at hl; wp_walk; exact ⟨_, rfl, h⟩⟩
theorem dec_mul : Declines .Mult := ⟨_, _, PySem.F.slot_int_mul, PySem.F.entry_int_mul, fun a b => PySem.F.args_int_mul_2 a b, fun a t l C dx =>
  .of_wp fun prog w A R s h => by obtain ⟨hp, g, d, tk, os⟩ := s; obtain ⟨hl, h⟩ := h; unfold PySem.W.instObj at hl; wp_walk; exact ⟨_, rfl, h⟩⟩

/-- what the text says of the class at C and one of its reflected operators (f: the plain one, r: the reflected one) -/
structure RefOf (K : PySem.W.Frag) (C : Addr) (op : Operator) (f r : Addr) (fo ro : Option Value) : Prop where
  sf : PySem.W.selfFirst K C = true
  hs : PySem.W.findIn K (.ref C) (PySem.dunder op.info.2) = some (some (.ref f))
  hr : PySem.W.findIn K (.ref C) (dunderR op.info.2) = some (some (.ref r))
  hf : PySem.W.isFn K (.ref r) = true
  h1 : PySem.W.findIn K (.type "int") (PySem.dunder op.info.2) = some fo
  h2 : PySem.W.findIn K (.type "int") (dunderR op.info.2) = some ro
  full : ((fo.isSome && !isSeqSlot fo) || (ro.isSome && !isSeqSlot ro)) = true
  sub : PySem.W.subIn K (.ref C) (.type "int") = some false

section
variable {prog : Program} {w : World} {A : Around} {Er : Value → Shared → Prop} {s : Shared} {K : PySem.W.Frag} {x C dx f r : Addr} {od : Option Obj} {op : Operator} {fo ro : Option Value} {i : Int} {t : Tok}
/-- an int on the left: its method declines, then the instance's reflected one answers -/
theorem refl1 {Q : Value → Shared → Prop} (kin : K.In s.heap) (J : PySem.W.InstAt s.heap x (PySem.W.instObj C dx) C od) (T : RefOf K C op f r fo ro) (D : Declines op)
    (h : wpAny (model prog w) A (call (.ref r) [.ref x, .int i t]) (PySem.W.CmpBack Q) Er s) : wpAny (model prog w) A (binaryOp1 op.info.2 (.int i t) (.ref x)) (fun v s' => ∃ z, v = some z ∧ Q z s') Er s := by
  obtain ⟨cd, rest, hcd, hm⟩ := PySem.W.ksp_first T.sf
  obtain ⟨id, B, slot, entry, args, meets⟩ := D
  have T' := T
  obtain ⟨sf, hs, hr, hf, h1, h2, full, sub⟩ := T
  rcases hi : op.info with ⟨sym, nm⟩
  rw [hi] at hs hr h1 h2 slot
  dsimp only at hs hr h1 h2 slot
  have one := PySem.W.ksp_try kin J hr hf h
  have hx : s.heap.get? x = some (PySem.W.instObj C dx) := J.at_
  obtain ⟨hh, g, d, tt, os⟩ := s
  have L1 : PySem.W.Looks (model prog w) hh (typeOf (.int i t)) (.type "int") := PySem.W.Looks.of_pure rfl
  have L2 : PySem.W.Looks (model prog w) hh (typeOf (.ref x)) (.ref C) := J.type
  have L3 : PySem.W.Looks (model prog w) hh (fillsNumberSlot (.type "int") nm) true := by have z := PySem.W.ksp_fillsT (M := model prog w) kin h1 h2; rw [full] at z; exact z
  have L4 : PySem.W.Looks (model prog w) hh (fillsNumberSlot (.ref C) nm) true := PySem.W.fills_K kin hcd hm hs
  have L5 : PySem.W.Looks (model prog w) hh (isSubtype (.ref C) (.type "int")) false := PySem.W.looks_subIn kin sub
  have L6 : PySem.W.Looks (model prog w) hh (numberSlotInPython (.type "int") nm) false := PySem.W.Looks.of_pure rfl
  have hne : (Value.type "int" == Value.ref C) = false := Bool.eq_false_iff.mpr fun q => by cases beq_iff_eq.mp q
  have no : ∀ {R : Option Value → Shared → Prop}, R none ⟨hh, g, d, tt, os⟩ → wpAny (model prog w) A (tryMethod (.int i t) (PySem.dunder nm) (.ref x)) R Er ⟨hh, g, d, tt, os⟩ := fun {R} hR =>
    wpAny_tryMethod_declines (typeIs_int _ _ _) slot (PySem.call_meets slot (typeIs_int _ _ _) entry (args _ _) (meets i t x C dx) ⟨hx, rfl, hR⟩)
  unfold binaryOp1
  refine wpAny_bind (L1.at (wpAny_bind (L2.at (wpAny_bind (L3.at ?_)))))
  simp only [hne, Bool.false_eq_true, if_false]
  ksp_lk
  refine no ?_
  ksp_lk
  refine wpAny_mono one (fun v s' hv => ?_) fun _ _ e => e
  obtain ⟨z, rfl, hq⟩ := hv
  first
    | exact wpAny_bind (wpAny_rule (wpAny_pure ⟨z, rfl, hq⟩))
    | (ksp_lk; exact ⟨z, rfl, hq⟩)
end
end RR
set_option maxHeartbeats 4000000
namespace RR
open PySem PySem.Spec PyProof.Rows L2

/-- no in-place method of the class, nor of object -/
structure NoI (K : PySem.W.Frag) (C : Addr) (op : Operator) : Prop where
  mro : (PySem.W.clsIn K C).any (fun cd => cd.mro == [.ref C, .type "object"]) = true
  c : PySem.W.findIn K (.ref C) (dunderI op.info.2) = some none
  o : PySem.W.findIn K (.type "object") (dunderI op.info.2) = some none
  i : PySem.W.findIn K (.type "int") (dunderI op.info.2) = some none

section
variable {prog : Program} {w : World} {A : Around} {Er : Value → Shared → Prop} {s : Shared} {K : PySem.W.Frag} {x C dx f : Addr} {od : Option Obj} {op : Operator} {rc fo ro : Option Value} {b : Value}
/-- an instance on the left: its own method answers (the step that + and += share) -/
theorem left1 {ox : Obj} {Q : Value → Shared → Prop} (kin : K.In s.heap) (J : PySem.W.InstAt s.heap x ox C od) (T : BinOf K C op f rc fo ro) (hb : typeOf b = pure (.type "int") ∨ PySem.W.Looks (model prog w) s.heap (typeOf b) (.ref C))
    (h : wpAny (model prog w) A (call (.ref f) [.ref x, b]) (PySem.W.CmpBack Q) Er s) : wpAny (model prog w) A (binaryOp1 op.info.2 (.ref x) b) (fun v s' => ∃ z, v = some z ∧ Q z s') Er s := by
  obtain ⟨cd, rest, hcd, hm⟩ := PySem.W.ksp_first T.sf
  obtain ⟨sf, hs, hf, hr, hp, h1, h2, sub⟩ := T
  rcases hi : op.info with ⟨sym, nm⟩
  rw [hi] at hs hr h1 h2
  dsimp only at hs hr h1 h2
  have one := PySem.W.ksp_try kin J hs hf h
  obtain ⟨hh, g, d, tt, os⟩ := s
  have L1 : PySem.W.Looks (model prog w) hh (typeOf (.ref x)) (.ref C) := J.type
  have L3 : PySem.W.Looks (model prog w) hh (fillsNumberSlot (.ref C) nm) true := PySem.W.fills_K kin hcd hm hs
  have L6 : PySem.W.Looks (model prog w) hh (numberSlotInPython (.ref C) nm) true := PySem.W.ksp_inPy kin hs hr hp
  rcases hb with hb | hb
  · have L2 : PySem.W.Looks (model prog w) hh (typeOf b) (.type "int") := PySem.W.Looks.of_pure hb
    have L4 := PySem.W.ksp_fillsT (M := model prog w) kin h1 h2
    have L5 : PySem.W.Looks (model prog w) hh (isSubtype (.type "int") (.ref C)) false := PySem.W.looks_subIn kin sub
    have L7 : PySem.W.Looks (model prog w) hh (numberSlotInPython (.type "int") nm) false := PySem.W.Looks.of_pure rfl
    have L8 : PySem.W.Looks (model prog w) hh (typeLookup (.type "int") (dunderR nm)) ro := PySem.W.looks_findIn kin h2
    generalize ((fo.isSome && !isSeqSlot fo) || (ro.isSome && !isSeqSlot ro)) = right at L4
    have hne : (Value.ref C == Value.type "int") = false := Bool.eq_false_iff.mpr fun q => by cases beq_iff_eq.mp q
    unfold binaryOp1
    refine wpAny_bind (L1.at (wpAny_bind (L2.at (wpAny_bind (L3.at ?_)))))
    simp only [hne, Bool.false_eq_true, if_false]
    cases right with
    | false =>
      ksp_lk
      refine wpAny_mono one (fun v s' hv => ?_) fun _ _ e => e
      obtain ⟨z, rfl, hq⟩ := hv
      ksp_lk
      exact ⟨z, rfl, hq⟩
    | true =>
      ksp_lk
      refine wpAny_mono one (fun v s' hv => ?_) fun _ _ e => e
      obtain ⟨z, rfl, hq⟩ := hv
      ksp_lk
      exact ⟨z, rfl, hq⟩
  · have L2 : PySem.W.Looks (model prog w) hh (typeOf b) (.ref C) := hb
    unfold binaryOp1
    refine wpAny_bind (L1.at (wpAny_bind (L2.at (wpAny_bind (L3.at ?_)))))
    simp only [beq_self_eq_true, if_true]
    ksp_lk
    refine wpAny_mono one (fun v s' hv => ?_) fun _ _ e => e
    obtain ⟨z, rfl, hq⟩ := hv
    ksp_lk
    exact ⟨z, rfl, hq⟩

theorem noI_C (kin : K.In s.heap) (T : NoI K C op) {add : Bool} : PySem.W.Looks (model prog w) s.heap (fillsInplaceSlot (.ref C) op.info.2 add) false := by
  obtain ⟨cd, hcd, hm⟩ := PySem.W.any_some T.mro
  have hm' : cd.mro = [.ref C, .type "object"] := beq_iff_eq.mp hm
  intro A Q E s2 k q
  have Lm : PySem.W.Looks (model prog w) s.heap (mroOf (.ref C)) cd.mro := (PySem.W.looks_clsIn kin hcd).andThen (f := fun cd => pure cd.mro) .now
  have Lm2 := Lm.keeps k
  have kin2 : K.In s2.heap := kin.keeps k
  obtain ⟨hh, g, d, tt, os⟩ := s2
  have L1 : PySem.W.Looks (model prog w) hh (typeLookup (.ref C) (dunderI op.info.2)) none := PySem.W.looks_findIn kin2 T.c
  have L2 : PySem.W.Looks (model prog w) hh (typeLookup (.type "object") (dunderI op.info.2)) none := PySem.W.looks_findIn kin2 T.o
  unfold fillsInplaceSlot
  refine wpAny_bind (Lm2.at ?_)
  rw [hm', List.anyM_cons]
  refine wpAny_bind ?_
  repeat lk
  exact q
theorem noI_int (kin : K.In s.heap) (T : NoI K C op) {add : Bool} : PySem.W.Looks (model prog w) s.heap (fillsInplaceSlot (.type "int") op.info.2 add) false := by
  intro A Q E s2 k q
  have kin2 : K.In s2.heap := kin.keeps k
  obtain ⟨hh, g, d, tt, os⟩ := s2
  have L1 : PySem.W.Looks (model prog w) hh (typeLookup (.type "int") (dunderI op.info.2)) none := PySem.W.looks_findIn kin2 T.i
  unfold fillsInplaceSlot
  repeat lk
  exact q
end
end RR
set_option maxHeartbeats 4000000
namespace RR
open PySem PySem.Spec PyProof.Rows L2

section
variable {X : Cx} {CX : CXT} {pins : List (Addr × Obj)} {σ : L2.St} {H : Hp} {s : Shared} {C f r : Addr} {n : Nat} {g g' : Sp} {E : XK} {op : Operator} {rc fo ro : Option Value}

/-- i op y, i an int, y an instance: the reflected method's promise -/
def rOpR (C : Addr) (g : Sp) (E : XK) : R2 := fun x y H Q => (∃ i, x = .int i) ∧ (∃ a dx fs, y = .ref a ∧ H a = some (.ins C dx fs)) ∧ g [y, x] H Q E
theorem run_refl (T : RefOf X.K C op f r fo ro) (D : Declines op) (F : FnR X.prog X.w X.K X.mg X.base CX n r g) (hr : Room n X.A) (hx : Passes CX X E) {x y : V} {v u : Value} {Q : VK} (I : Inv X pins σ H s) (rx : RelV x v) (ry : RelV y u) (h : rOpR C g E x y H Q) :
    wpAny (model X.prog X.w) X.A (binaryOp1 op.info.2 v u) (fun v s' => ∃ z, v = some z ∧ EP X pins σ Q z s') X.xe s := by
  obtain ⟨⟨i, rfl⟩, ⟨a, dx, fs, rfl, ea⟩, q⟩ := h
  obtain rfl : u = .ref a := ry
  have rx' := rx
  obtain ⟨t, rfl⟩ := rx
  obtain ⟨od, J⟩ := inst_of I ea
  refine refl1 I.kIn J T D ?_
  refine wpAny_mono (wpAny_call (run_fnR (us := [.ref a, .int i t]) (vs := [.ref a, .int i]) F hr hx I (.cons rfl (.cons rx' .nil)) q)) ?_ fun _ _ z => z
  rintro z s2 ⟨z', H2, I2, rz, qz⟩
  exact back_of rz ⟨z', H2, I2, rz, qz⟩
theorem run_left (T : BinOf X.K C op f rc fo ro) (F : FnR X.prog X.w X.K X.mg X.base CX n f g) (hr : Room n X.A) (hx : Passes CX X E) {x y : V} {v u : Value} {Q : VK} (I : Inv X pins σ H s) (rx : RelV x v) (ry : RelV y u) (h : rOpL C g E x y H Q) :
    wpAny (model X.prog X.w) X.A (binaryOp1 op.info.2 v u) (fun v s' => ∃ z, v = some z ∧ EP X pins σ Q z s') X.xe s := by
  obtain ⟨⟨a, dx, fs, rfl, ea⟩, hy, q⟩ := h
  obtain rfl : v = .ref a := rx
  obtain ⟨od, J⟩ := inst_of I ea
  have hb : typeOf u = pure (.type "int") ∨ PySem.W.Looks (model X.prog X.w) s.heap (typeOf u) (.ref C) := by
    rcases hy with ⟨i, rfl⟩ | ⟨b, dy, gs, rfl, eb⟩
    · obtain ⟨t, rfl⟩ := ry
      exact .inl rfl
    · obtain rfl : u = .ref b := ry
      obtain ⟨od', J'⟩ := inst_of I eb
      exact .inr J'.type
  refine left1 I.kIn J T hb ?_
  refine wpAny_mono (wpAny_call (run_fnR (us := [.ref a, u]) (vs := [.ref a, y]) F hr hx I (.cons rfl (.cons ry .nil)) q)) ?_ fun _ _ z => z
  rintro z s2 ⟨z', H2, I2, rz, qz⟩
  exact back_of rz ⟨z', H2, I2, rz, qz⟩

theorem op_ownR (T : RefOf X.K C op f r fo ro) (D : Declines op) (F : FnR X.prog X.w X.K X.mg X.base CX n r g) (hr : Room n X.A) (hx : Passes CX X E) : OpR X (binaryOp op) (rOpR C g E) := by
  intro pins s σ H x y v u Q I rx ry h
  have z := run_refl T D F hr hx I rx ry h
  rcases hi : op.info with ⟨sym, nm⟩
  rw [hi] at z
  simp only [binaryOp, hi]
  refine wpAny_holding (wpAny_bind (wpAny_mono z ?_ fun _ _ e => e))
  rintro v s' ⟨z, rfl, hq⟩
  exact wpAny_pure hq

/-- x op= y where the class has no in-place method: as x op y -/
def rOpI (C : Addr) (g g' : Sp) (E : XK) : TIp := fun x y H Q => rOpL C g E x y H Q ∨ rOpR C g' E x y H Q
theorem ip_own (T : BinOf X.K C op f rc fo ro) (F : FnR X.prog X.w X.K X.mg X.base CX n f g) (T' : RefOf X.K C op f r fo ro) (D : Declines op) (F' : FnR X.prog X.w X.K X.mg X.base CX n r g') (N : NoI X.K C op) (hr : Room n X.A) (hx : Passes CX X E) :
    PIp X op (rOpI C g g' E) := by
  intro pins s σ H x y v u Q I rx ry h
  have fin : ∀ {a : Value}, wpAny (model X.prog X.w) X.A (binaryOp1 op.info.2 v u) (fun v s' => ∃ z, v = some z ∧ EP X pins σ Q z s') X.xe s → PySem.W.Looks (model X.prog X.w) s.heap (typeOf v) a →
      PySem.W.Looks (model X.prog X.w) s.heap (fillsInplaceSlot a op.info.2 (op == .Add)) false → wpAny (model X.prog X.w) X.A (inplaceOp op v u) (EP X pins σ Q) X.xe s := by
    intro a z l1 l2
    obtain ⟨hh, gg, d, tt, os⟩ := s
    unfold inplaceOp
    refine wpAny_holding ?_
    refine wpAny_bind (l1.at (wpAny_bind (l2.at ?_)))
    rw [if_neg Bool.false_ne_true]
    refine wpAny_bind (wpAny_mono z ?_ fun _ _ e => e)
    rintro v s' ⟨z, rfl, hq⟩
    exact wpAny_pure hq
  rcases h with h | h
  · have z := run_left T F hr hx I rx ry h
    obtain ⟨⟨a, dx, fs, rfl, ea⟩, hy, q⟩ := h
    obtain rfl : v = .ref a := rx
    obtain ⟨od, J⟩ := inst_of I ea
    exact fin z J.type (noI_C I.kIn N)
  · have z := run_refl T' D F' hr hx I rx ry h
    obtain ⟨⟨i, rfl⟩, _, _⟩ := h
    obtain ⟨t, rfl⟩ := rx
    exact fin z (PySem.W.Looks.of_pure rfl) (noI_int I.kIn N)

/-- abs(x), x an instance -/
def rAbsO (C : Addr) (g : Sp) (E : XK) : List V → Hp → VK → Prop := fun xs H Q => (∃ a dx fs, xs = [.ref a] ∧ H a = some (.ins C dx fs)) ∧ g xs H Q E
theorem call_absO (hs : PySem.W.findIn X.K (.ref C) "__abs__" = some (some (.ref f))) (hf : PySem.W.isFn X.K (.ref f) = true) (F : FnR X.prog X.w X.K X.mg X.base CX n f g) (hr : Room (n + 1) X.A) (hx : Passes CX X E) : CallR X (.builtin "abs") (rAbsO C g E) := by
  intro pins s σ H xs us Q I rv h
  obtain ⟨⟨a, dx, fs, rfl, ea⟩, q⟩ := h
  obtain ⟨u, rfl, ru⟩ := rv.one
  obtain rfl : u = .ref a := ru
  obtain ⟨od, J⟩ := inst_of I ea
  refine Calls.call_function_entry kind_abs plain_abs entry_abs (args_abs _) ?_
  unfold Builtin.«abs»
  refine wpAny_bind (m := oneArg "abs" _) (wpAny_pure ?_)
  refine wpAny_bind (PySem.W.special_fn (f := f) I.kIn J hs (beq_iff_eq.mp hf) ?_)
  refine wpAny_mono (wpAny_call ?_) (Q := EP X pins σ Q) (E := X.xe) ?_ fun _ _ z => z
  · refine codeAny_mono (F X.A.in1 X.stack s H [.ref a] [.ref a] Q E hr.in1 I.env0.in1 (.cons rfl .nil) q) fun rr s' hq => ?_
    cases rr with
    | error e => exact hx pins σ H s e s' I hq
    | ok fl =>
      cases fl with
      | ret u => exact I.after hq
      | next => exact False.elim hq
      | brk => exact False.elim hq
      | cont => exact False.elim hq
  · intro v s' hv
    exact wpAny_pure ⟨_, rfl, hv⟩
end
end RR
set_option maxHeartbeats 4000000
namespace RR
open PySem PySem.Spec PyProof.Rows L2

/-- C.m is a static method: its record at p, its def at g -/
structure SMet (K : PySem.W.Frag) (C : Addr) (mc : Value) (m : Str) (p g : Addr) : Prop where
  ty : PySem.W.typeIn K (.ref C) = some mc
  rd : PySem.W.readsIn K C mc = true
  ga : PySem.W.specialIn K (.ref C) "__getattribute__" = some (some (.builtin "type.__getattribute__"))
  at_ : PySem.W.findCls K (.ref C) mc m = some (.get (.builtin "staticmethod.__get__") (.ref p) .none (.ref C))
  rc : ∃ rest, PySem.W.recIn K p "staticmethod" = some (.ref g :: rest)
  kp : PySem.W.keepIn K (.ref g) = true

/-- C.m(e, ..) -/
def tSMeth (C : Addr) (g : Sp) (E : XK) (ta : TE) (t : TA) : TE := fun σ H Q => ta σ H fun x H1 => x = .ref C ∧ t σ H1 fun vs H2 => g vs H2 Q E
section
variable {X : Cx} {CX : CXT} {k : Nat} {C p f : Addr} {mc : Value} {g : Sp} {E : XK} {o e : Expr} {es : List Expr} {m : Str} {pos apos : Pos} {ta : TE} {t : TA} {pl : Sem Bool}
theorem smeth_get {pins : List (Addr × Obj)} {σ : L2.St} {H : Hp} {s : Shared} {Q : Value × List Value → Shared → Prop} {A : Around} {Er : Value → Shared → Prop} (I : Inv X pins σ H s) (T : SMet X.K C mc m p f)
    (h : ∀ s', Inv X pins σ H s' → Q (.ref f, []) s') : wpAny (model X.prog X.w) A (getMethod (.ref C) m pl) Q Er s := by
  obtain ⟨rest, hp⟩ := T.rc
  obtain ⟨mm, fr⟩ := I.fr
  exact PySem.W.method_of_cls fr I.ok.mod.kin T.ga (PySem.W.cls_sm fr I.ok.mod.kin T.ty T.rd T.at_ hp rfl (h _ (I.tok _)))
theorem pe_smeth (he : PE X o ta) (T : SMet X.K C mc m p f) (F : FnR X.prog X.w X.K X.mg X.base CX k f g) (hr : Room k X.A) (hx : Passes CX X E) (ha : PA X (e :: es) t)
    (hst : starEach (e :: es) X.env = (false, eval e X.env) :: starEach es X.env := by rfl) (hpl : (backTo pos (starEach es X.env)).any (·.1) = false := by rfl)
    (ht : eval (.Call (.Attribute o m apos) (e :: es) [] pos) X.env = (do
      let ov ← eval o X.env; standAt apos.atName; let (f, first) ← holding [ov] (getMethod ov m pl)
      callWith pos f first (backTo pos (starEach (e :: es) X.env)) (backToKw pos (keywordEach [] X.env))) := by rfl) :
    PE X (.Call (.Attribute o m apos) (e :: es) [] pos) (tSMeth C g E ta t) := by
  constructor
  intro pins s σ H Q I h
  refine PySem.W.methodCall_KW (pl := pl) (thn (he.run pins s σ H _ I h) ?_) ht
  rintro u s1 ⟨x, H1, I1, rx, rfl, q⟩
  obtain rfl : u = .ref C := rx
  refine smeth_get I1 T fun s2 I2 => ?_
  refine PySem.W.callWith_K (first := []) (h₀ := X.base) I2.ok.mod.kin T.kp (thn (ha.run pos pins s2 σ H1 _ I2 q) ?_) hst hpl
  rintro us s3 ⟨vs, H2, I3, rv, q2⟩
  exact ⟨I3.kIn, wpAny_call (run_fnR F hr hx I3 rv q2)⟩
theorem pe_smeth0 (he : PE X o ta) (T : SMet X.K C mc m p f) (F : FnR X.prog X.w X.K X.mg X.base CX k f g) (hr : Room k X.A) (hx : Passes CX X E)
    (ht : eval (.Call (.Attribute o m apos) [] [] pos) X.env = (do
      let ov ← eval o X.env; standAt apos.atName; let (f, first) ← holding [ov] (getMethod ov m pl)
      callWith pos f first (backTo pos (starEach [] X.env)) (backToKw pos (keywordEach [] X.env))) := by rfl) :
    PE X (.Call (.Attribute o m apos) [] [] pos) (tSMeth C g E ta tNil) := by
  constructor
  intro pins s σ H Q I h
  refine PySem.W.methodCall_KW (pl := pl) (thn (he.run pins s σ H _ I h) ?_) ht
  rintro u s1 ⟨x, H1, I1, rx, rfl, q⟩
  obtain rfl : u = .ref C := rx
  refine smeth_get I1 T fun s2 I2 => ?_
  exact PySem.W.callWith_K0 (first := []) I2.kIn T.kp (wpAny_call (run_fnR (us := []) (vs := []) F hr hx I2 .nil q))

/-- repr(x), x a list or tuple of data -/
def rRepr (K : PySem.W.Frag) : List V → Hp → VK → Prop := fun xs H Q => ∃ a d, xs = [.ref a] ∧ Dp K H (.ref a) d ∧ d.showable = true ∧ d.hasDict = false ∧ d.depth ≤ 20 ∧ d.shown.length ≤ sizeLine ∧ Q (.str d.shown) H
theorem call_repr (hu : X.A.units + 64 < cLine) (fr : Free X.A) : CallR X (.builtin "repr") (rRepr X.K) := by
  intro pins s σ H xs us Q I rv h
  obtain ⟨a, d, rfl, hd, hs, hnd, hdep, hl, q⟩ := h
  obtain ⟨u, rfl, ru⟩ := rv.one
  obtain rfl : u = .ref a := ru
  obtain ⟨as, hr⟩ := Dp.reads I d _ _ hd (show RelV (.ref a) (.ref a) from rfl)
  refine repr_of_reads' hr hs (PyData.noDict_hsm hnd) fr (by omega) (fun _ _ e => e) (fun h' u tk hk => ?_) hl
  exact ⟨.str d.shown, H, I.kept (t' := tk) hk, ⟨u, rfl⟩, q⟩

/-- the text of a tuple of two ints -/
def ii (a b : Int) : PyData := .tuple [.int a, .int b]
theorem ii_len {a b : Int} (ha : a.natAbs.log2 < 1920) (hb : b.natAbs.log2 < 1920) : (ii a b).shown.length ≤ sizeLine := by
  have e1 := int_text_length_le (k := 1920) (by decide) ha
  have e2 := int_text_length_le (k := 1920) (by decide) hb
  show (tupleText [Str.ofString (toString a), Str.ofString (toString b)]).length ≤ _
  unfold tupleText
  rw [strLen_append, strLen_append]
  show ((("(" : String) : Str)).length + ((Str.ofString (toString a) ++ ((", " : String) : Str) ++ Str.ofString (toString b))).length + _ ≤ _
  rw [strLen_append, strLen_append, PySem.ofString_length (toString a), PySem.ofString_length (toString b), sizeLine_eq]
  have l1 : ((("(" : String) : Str)).length = 1 := rfl
  have l2 : (((", " : String) : Str)).length = 2 := rfl
  have l3 : (((if ([Str.ofString (toString a), Str.ofString (toString b)] : List Str).length == 1 then ",)" else ")" : String) : Str)).length = 1 := rfl
  rw [l1, l2, l3]
  omega
/-- repr((i, j)), the tuple tracked -/
def rReprII (K : PySem.W.Frag) : List V → Hp → VK → Prop := fun xs H Q => ∃ p a b, xs = [.ref p] ∧ SqT K H p [.int a, .int b] ∧ a.natAbs < 2 ^ 1900 ∧ b.natAbs < 2 ^ 1900 ∧ Q (.str (ii a b).shown) H
theorem log_of {n : Nat} (h : n < 2 ^ 1900) : n.log2 < 1920 := by
  have := PySem.Flt.log2_lt_of (by decide : 0 < 1900) h
  omega
theorem call_reprII (hu : X.A.units + 64 < cLine) (fr : Free X.A) : CallR X (.builtin "repr") (rReprII X.K) := by
  intro pins s σ H xs us Q I rv h
  obtain ⟨p, a, b, rfl, ht, ha, hb, q⟩ := h
  have la := log_of ha
  have lb := log_of hb
  refine call_repr hu fr pins s σ H _ us Q I rv ⟨p, ii a b, rfl, .tup ht (.cons (.int a) (.cons (.int b) .nil)), ?_, rfl, (show 0 + 1 ≤ 20 by decide), ii_len la lb, q⟩
  show (decide (a.natAbs.log2 < 1920) && (decide (b.natAbs.log2 < 1920) && true)) = true
  rw [decide_eq_true la, decide_eq_true lb]
  rfl
end
end RR
set_option maxHeartbeats 4000000
namespace RR
open PySem PySem.Spec PyProof.Rows L2

theorem hp_new {H : Hp} {a b : Addr} {o u : HO} (h : H b = some u) (n : H a = none) : upd H a o b = some u := by rw [upd_ne (ne_of_none h n)]; exact h
theorem hp_mut {H : Hp} {a b : Addr} {o u : HO} (h : H b = some u) (n : b ≠ a) : upd H a o b = some u := by rw [upd_ne n]; exact h
theorem hp_no {H : Hp} {a b : Addr} {o : HO} (h : H b = none) (n : b ≠ a) : upd H a o b = none := by rw [upd_ne n]; exact h
theorem no_back {H : Hp} {a b : Addr} {o : HO} (h : upd H a o b = none) : b ≠ a ∧ H b = none := by
  by_cases e : b = a
  · subst e; rw [upd_same] at h; cases h
  · rw [upd_ne e] at h; exact ⟨e, h⟩

/-! ### data -/
theorem dp_ints {K : PySem.W.Frag} {H : Hp} : ∀ ns : List Int, DpAll K H (ns.map V.int) (ns.map PyData.int)
  | [] => .nil
  | n :: r => .cons (.int n) (dp_ints r)
theorem lay_ints : ∀ ns : List Int, PyData.canLayAll0 (ns.map PyData.int) = true
  | [] => rfl
  | n :: r => by show (true && PyData.canLayAll0 (r.map PyData.int)) = true; rw [lay_ints r]; rfl
theorem dep_ints : ∀ ns : List Int, PyData.depthAll (ns.map PyData.int) = 0
  | [] => rfl
  | n :: r => by show max 0 (PyData.depthAll (r.map PyData.int)) = 0; rw [dep_ints r]; rfl
theorem shaped_ints (ns : List Int) : SeqAt.shaped (.list (ns.map PyData.int)) = true := by
  unfold SeqAt.shaped
  rw [Bool.and_eq_true]
  refine ⟨lay_ints ns, ?_⟩
  show decide (PyData.depthAll (ns.map PyData.int) + 1 ≤ 64) = true
  rw [dep_ints]
  rfl
theorem eqv_nil (ns : List Int) : PyData.eqv (.list (ns.map PyData.int)) (.list []) = ns.isEmpty := by
  cases ns with
  | nil => simp only [List.map_nil, PyData.eqv, PyData.eqvAll, List.isEmpty_nil]
  | cons n r => simp only [List.map_cons, PyData.eqv, PyData.eqvAll, List.isEmpty_cons]

/-! ### numbers -/
theorem fmod_lo {a m : Int} (h : 0 < m) : 0 ≤ a.fmod m := by rw [Int.fmod_eq_emod_of_nonneg a (Int.le_of_lt h)]; exact Int.emod_nonneg a (Int.ne_of_gt h)
theorem fmod_hi {a m : Int} (h : 0 < m) : a.fmod m < m := by rw [Int.fmod_eq_emod_of_nonneg a (Int.le_of_lt h)]; exact Int.emod_lt_of_pos a h
theorem len_pos {ns : List Int} (h : (!ns.isEmpty) = true) : 0 < ((ns.map V.int).length : Int) := by
  cases ns with
  | nil => cases h
  | cons n r => rw [List.length_map]; show (0 : Int) < ((r.length + 1 : Nat) : Int); omega
theorem pow3_b {b a x y z : Int} (b0 : 0 ≤ b) (b1 : b < 2147483648) (a0 : 0 ≤ a) (a1 : a ≤ 100000) (x0 : 0 ≤ x) (x1 : x < 1000) (y0 : 0 ≤ y) (y1 : y < 100000) (z0 : 0 ≤ z) (z1 : z < 1000) : (b * (2 * a + x) + y * a * a + z).natAbs < 2 ^ 64 := by
  have e1 : 0 ≤ b * (2 * a + x) := Int.mul_nonneg b0 (by omega)
  have e2 : b * (2 * a + x) ≤ 2147483648 * 201000 := Int.mul_le_mul (by omega) (by omega) (by omega) (by omega)
  have e3 : 0 ≤ y * a := Int.mul_nonneg y0 a0
  have e4 : y * a ≤ 100000 * 100000 := Int.mul_le_mul (by omega) (by omega) (by omega) (by omega)
  have e5 : 0 ≤ y * a * a := Int.mul_nonneg e3 a0
  have e6 : y * a * a ≤ (100000 * 100000) * 100000 := Int.mul_le_mul e4 (by omega) (by omega) (by omega)
  omega
theorem at_map {ns : List Int} {i : Int} (h0 : 0 ≤ i) (h1' : i < ((ns.map V.int).length : Int)) : ∃ n, n ∈ ns ∧ atI (ns.map V.int) i = some (.int n) := by
  have h1 : i < (ns.length : Int) := by rw [List.length_map] at h1'; exact h1'
  obtain ⟨k, rfl⟩ := Int.eq_ofNat_of_zero_le h0
  have hk : k < ns.length := by omega
  refine ⟨ns[k], List.getElem_mem hk, ?_⟩
  unfold atI ixN
  rw [List.length_map, if_pos h0, if_pos h1]
  show (ns.map V.int)[(k : Int).toNat]? = _
  rw [Int.toNat_natCast, List.getElem?_map, List.getElem?_eq_getElem hk]
  rfl
theorem at_some {xs : List V} {i : Int} (h0 : 0 ≤ i) (h1 : i < xs.length) : ∃ x, x ∈ xs ∧ atI xs i = some x := by
  obtain ⟨k, rfl⟩ := Int.eq_ofNat_of_zero_le h0
  have hk : k < xs.length := by omega
  refine ⟨xs[k], List.getElem_mem hk, ?_⟩
  unfold atI ixN
  rw [if_pos h0, if_pos h1]
  show xs[(k : Int).toNat]? = _
  rw [Int.toNat_natCast, List.getElem?_eq_getElem hk]

/-! ### the pen -/
/-- the pen: its cells, the index of the next one, what is left of a great one -/
def pen (c : Addr) (a g : Int) : HO := .lst [.ref c, .int a, .int g]
structure PenAt (H : Hp) (p c : Addr) (ns : List Int) (a g : Int) : Prop where
  pn : H p = some (.lst [.ref c, .int a, .int g])
  cs : H c = some (.lst (ns.map V.int))
  la : 0 ≤ a
  lb : a ≤ 100000
  ln : ns.length ≤ 63
theorem PenAt.ne {H : Hp} {p c : Addr} {ns : List Int} {a g : Int} (W : PenAt H p c ns a g) : c ≠ p := by
  refine ne_of W.cs W.pn fun z => ?_
  have z' := HO.lst.inj z
  cases ns with
  | nil => cases z'
  | cons n r => cases (List.cons.inj z').1
/-- all that was tracked stands as it was, but p -/
def Keep (p : Addr) (H H' : Hp) : Prop := ∀ b o, H b = some o → b ≠ p → H' b = some o
theorem Keep.refl (p : Addr) (H : Hp) : Keep p H H := fun _ _ h _ => h
theorem Keep.trans {p : Addr} {H H1 H2 : Hp} (a : Keep p H H1) (b : Keep p H1 H2) : Keep p H H2 := fun x o h n => b x o (a x o h n) n
theorem Keep.of {p : Addr} {H H' : Hp} (a : Same H H') : Keep p H H' := fun x o h _ => a x o h
theorem Keep.new {p q : Addr} {H H1 : Hp} {o : HO} (a : Keep p H H1) (n : H1 q = none) : Keep p H (upd H1 q o) := fun x u h e => hp_new (a x u h e) n
/-- the pen behind a draw -/
theorem PenAt.next {H H' : Hp} {p c : Addr} {ns : List Int} {a g a' g' : Int} (W : PenAt H p c ns a g) (h0 : a ≤ a') (h1 : a' ≤ 100000) (hp : H' p = some (pen c a' g')) (k : Keep p H H') : PenAt H' p c ns a' g' :=
  ⟨hp, k _ _ W.cs W.ne, Int.le_trans W.la h0, h1, W.ln⟩
theorem PenAt.keep {H H' : Hp} {p c : Addr} {ns : List Int} {a g : Int} (W : PenAt H p c ns a g) (k : Same H H') : PenAt H' p c ns a g := ⟨k _ _ W.pn, k _ _ W.cs, W.la, W.lb, W.ln⟩
def spDraw : Sp := fun vs H Q _ => ∃ p c ns a g m, vs = [.ref p, .int m] ∧ 0 < m ∧ m < 1000000 ∧ PenAt H p c ns a g ∧ ∀ d a' g' H', H' p = some (pen c a' g') → Keep p H H' → 0 ≤ d → d < m → a ≤ a' → a' ≤ a + 1 → Q (.int d) H'
/-- one of some things -/
def spPick (K : PySem.W.Frag) : Sp := fun vs H Q _ => ∃ p q c ns a g xs, vs = [.ref p, .ref q] ∧ PenAt H p c ns a g ∧ H q = some (.lst xs) ∧ q ≠ p ∧ 0 < xs.length ∧ xs.length < 1000 ∧
  ∀ x a' g' H', H' p = some (pen c a' g') → Keep p H H' → x ∈ xs → a ≤ a' → a' ≤ a + 1 → Q x H'
def spPen (K : PySem.W.Frag) : Sp := fun vs H Q _ => ∃ (a : Addr) (ns : List Int), vs = [.ref a] ∧ SqL K H a (ns.map V.int) ∧ ns.length ≤ 63 ∧ ∀ p c H', Same H H' → H p = none → H c = none → PenAt H' p c ns 0 0 → Q (.ref p) H'
end RR
namespace RR
open PySem PySem.Spec PyProof.Rows L2
section
variable {X : Cx}
/-- a % m, of which the bounds alone are told -/
def rModL : R2 := fun x y H Q => ∃ i j, x = .int i ∧ y = .int j ∧ 0 < j ∧ ∀ r, 0 ≤ r → r < j → Q (.int r) H
theorem op_modL : OpR X (binaryOp .Mod) rModL := by
  intro pins s σ H x y v u Q I rx ry h
  obtain ⟨i, j, rfl, rfl, hj, q⟩ := h
  exact op_modN pins s σ H _ _ v u Q I rx ry ⟨i, j, rfl, rfl, Int.ne_of_gt hj, q _ (fmod_lo hj) (fmod_hi hj)⟩
/-- a // m, a ** n, of which nothing is told -/
def rDivL : R2 := fun x y H Q => ∃ i j, x = .int i ∧ y = .int j ∧ (j ≠ 0 ∧ j.natAbs < 1073741824) ∧ ∀ r, Q (.int r) H
theorem op_divL : OpR X (binaryOp .FloorDiv) rDivL := by
  intro pins s σ H x y v u Q I rx ry h
  obtain ⟨i, j, rfl, rfl, hj, q⟩ := h
  exact op_fdivN pins s σ H _ _ v u Q I rx ry ⟨i, j, rfl, rfl, hj, q _⟩
def rPowL : R2 := fun x y H Q => ∃ i j, x = .int i ∧ y = .int j ∧ CPow i j ∧ ∀ r, Q (.int r) H
theorem op_powL : OpR X (binaryOp .Pow) rPowL := by
  intro pins s σ H x y v u Q I rx ry h
  obtain ⟨i, j, rfl, rfl, hj, q⟩ := h
  exact op_pow pins s σ H _ _ v u Q I rx ry ⟨i, j, rfl, rfl, hj, q _⟩
/-- c * a, c a small number that is written, or known to be small -/
def rMulL : R2 := fun x y H Q => ∃ i j, x = .int i ∧ y = .int j ∧ (-18446744073709551616 < i ∧ i < 18446744073709551616) ∧ Q (.int (i * j)) H
theorem op_mulL : OpR X (binaryOp .Mult) rMulL := by
  intro pins s σ H x y v u Q I rx ry h
  obtain ⟨i, j, rfl, rfl, hj, q⟩ := h
  exact op_mul pins s σ H _ _ v u Q I rx ry ⟨i, j, rfl, rfl, .inl hj, q⟩
end
end RR
set_option maxHeartbeats 4000000
namespace RR
open PySem PySem.Spec PyProof.Rows L2

/-! ### fractions -/
def gd (t b : Int) : Int := ((Nat.gcd t.natAbs b.natAbs : Nat) : Int)
/-- a fraction in lowest terms -/
def lo (t b : Int) : Int := t / gd t b
def lb (t b : Int) : Int := b / gd t b
theorem gd_pos {t b : Int} (h : 0 < b) : 0 < gd t b := by
  unfold gd
  have : 0 < Nat.gcd t.natAbs b.natAbs := Nat.gcd_pos_of_pos_right _ (by omega)
  omega
theorem gd_le {t b : Int} (h : 0 < b) : gd t b ≤ b := by
  unfold gd
  have : Nat.gcd t.natAbs b.natAbs ≤ b.natAbs := Nat.gcd_le_right _ (by omega)
  omega
theorem gd_dvd_l (t b : Int) : gd t b ∣ t := by
  unfold gd
  exact Int.ofNat_dvd_left.mpr (Nat.gcd_dvd_left _ _)
theorem gd_dvd_r (t b : Int) : gd t b ∣ b := by
  unfold gd
  exact Int.ofNat_dvd_left.mpr (Nat.gcd_dvd_right _ _)
theorem lb_pos {t b : Int} (h : 0 < b) : 0 < lb t b := Int.ediv_pos_of_pos_of_dvd h (Int.le_of_lt (gd_pos h)) (gd_dvd_r t b)
theorem div_small {t g : Int} {n : Nat} (h : t.natAbs < 2 ^ n) (g0 : 0 < g) (d : g ∣ t) : (t / g).natAbs < 2 ^ n := by
  refine Nat.lt_of_le_of_lt ?_ h
  obtain ⟨k, rfl⟩ := d
  rw [Int.mul_ediv_cancel_left k (Int.ne_of_gt g0), Int.natAbs_mul]
  exact Nat.le_mul_of_pos_left _ (by omega)
theorem lo_small {t b : Int} {n : Nat} (h : t.natAbs < 2 ^ n) (b0 : 0 < b) : (lo t b).natAbs < 2 ^ n := div_small h (gd_pos b0) (gd_dvd_l t b)
theorem lb_small {t b : Int} {n : Nat} (h : b.natAbs < 2 ^ n) (b0 : 0 < b) : (lb t b).natAbs < 2 ^ n := div_small h (gd_pos b0) (gd_dvd_r t b)
/-- in lowest terms -/
def Low (t b : Int) : Prop := 0 < b ∧ gd t b = 1
theorem low_lo {t b : Int} (h : Low t b) : lo t b = t := by unfold lo; rw [h.2]; exact Int.ediv_one t
theorem low_lb {t b : Int} (h : Low t b) : lb t b = b := by unfold lb; rw [h.2]; exact Int.ediv_one b
theorem low_one (t : Int) : Low t 1 := ⟨by decide, by unfold gd; rw [show (1 : Int).natAbs = 1 from rfl, Nat.gcd_one_right]; rfl⟩
theorem gd_neg (t b : Int) : gd (-t) b = gd t b := by unfold gd; rw [Int.natAbs_neg]
theorem low_neg {t b : Int} (h : Low t b) : Low (-t) b := ⟨h.1, by rw [gd_neg]; exact h.2⟩
theorem low_abs {t b : Int} (h : Low t b) : Low (if t < 0 then -t else t) b := by
  split
  · exact low_neg h
  · exact h
theorem low_of {t b : Int} (h : 0 < b) : Low (lo t b) (lb t b) := by
  refine ⟨lb_pos h, ?_⟩
  have g0 : 0 < Nat.gcd t.natAbs b.natAbs := Nat.gcd_pos_of_pos_right _ (by omega)
  have e1 : (lo t b).natAbs = t.natAbs / Nat.gcd t.natAbs b.natAbs := by
    obtain ⟨k, hk⟩ := gd_dvd_l t b
    unfold lo
    have gp := gd_pos (t := t) h
    conv => lhs; rw [hk]
    rw [show gd t b * k / gd (gd t b * k) b = gd t b * k / gd t b by rw [← hk]]
    rw [Int.mul_ediv_cancel_left k (Int.ne_of_gt gp)]
    have e : t.natAbs = Nat.gcd t.natAbs b.natAbs * k.natAbs := by
      conv => lhs; rw [hk, Int.natAbs_mul]
      unfold gd; rw [Int.natAbs_natCast]
    rw [e]
    rw [show Nat.gcd (Nat.gcd t.natAbs b.natAbs * k.natAbs) b.natAbs = Nat.gcd t.natAbs b.natAbs by rw [← e]]
    rw [Nat.mul_div_cancel_left _ g0]
  have e2 : (lb t b).natAbs = b.natAbs / Nat.gcd t.natAbs b.natAbs := by
    obtain ⟨k, hk⟩ := gd_dvd_r t b
    unfold lb
    have gp := gd_pos (t := t) h
    conv => lhs; rw [hk]
    rw [show gd t b * k / gd t (gd t b * k) = gd t b * k / gd t b by rw [← hk]]
    rw [Int.mul_ediv_cancel_left k (Int.ne_of_gt gp)]
    have e : b.natAbs = Nat.gcd t.natAbs b.natAbs * k.natAbs := by
      conv => lhs; rw [hk, Int.natAbs_mul]
      unfold gd; rw [Int.natAbs_natCast]
    rw [e]
    rw [show Nat.gcd t.natAbs (Nat.gcd t.natAbs b.natAbs * k.natAbs) = Nat.gcd t.natAbs b.natAbs by rw [← e]]
    rw [Nat.mul_div_cancel_left _ g0]
  unfold gd
  rw [e1, e2, Nat.gcd_div (Nat.gcd_dvd_left _ _) (Nat.gcd_dvd_right _ _), Nat.div_self g0]
  rfl
theorem gd_zero {b : Int} (h : 0 < b) : gd 0 b = b := by
  unfold gd
  rw [show (0 : Int).natAbs = 0 from rfl, Nat.gcd_zero_left]
  omega
theorem lo_zero {b : Int} : lo 0 b = 0 := by unfold lo; exact Int.zero_ediv _
theorem lb_zero {b : Int} (h : 0 < b) : lb 0 b = 1 := by unfold lb; rw [gd_zero h]; exact Int.ediv_self (Int.ne_of_gt h)

/-- a number that the programs reckon with -/
abbrev Sm (n : Nat) (i : Int) : Prop := i.natAbs < 2 ^ n
theorem sm_mono {m n : Nat} {i : Int} (h : Sm m i) (l : m ≤ n) : Sm n i := Nat.lt_of_lt_of_le h (Nat.pow_le_pow_right (by decide) l)
theorem sm_mul {m n : Nat} {i j : Int} (h : Sm m i) (k : Sm n j) : Sm (m + n) (i * j) := wide_lt h k
theorem sm_add {m : Nat} {i j : Int} (h : Sm m i) (k : Sm m j) : Sm (m + 1) (i + j) := by
  have e : 2 ^ (m + 1) = 2 ^ m + 2 ^ m := by rw [Nat.pow_succ]; omega
  have h' : i.natAbs < 2 ^ m := h
  have k' : j.natAbs < 2 ^ m := k
  show (i + j).natAbs < 2 ^ (m + 1)
  omega
theorem sm_neg {m : Nat} {i : Int} (h : Sm m i) : Sm m (-i) := by show (-i).natAbs < _; rw [Int.natAbs_neg]; exact h
theorem sm_sub {m : Nat} {i j : Int} (h : Sm m i) (k : Sm m j) : Sm (m + 1) (i - j) := by rw [Int.sub_eq_add_neg]; exact sm_add h (sm_neg k)
theorem sm_cmul {m n : Nat} {i j : Int} (h : Sm m i) (k : Sm n j) (hm : m + n ≤ 1000000) (m0 : 0 < m) (n0 : 0 < n) : CMulW i j := wide_mul h k m0 n0 hm

/-! ### a Ratio -/
def rfs (t b : Int) : List (Str × V) := [("top", .int t), ("bottom", .int b)]
def RatAt (C : Addr) (H : Hp) (x : Addr) (t b : Int) : Prop := ∃ dx, H x = some (.ins C dx (rfs t b))
theorem RatAt.same {C x : Addr} {H H' : Hp} {t b : Int} (h : RatAt C H x t b) (s : Same H H') : RatAt C H' x t b := h.elim fun dx e => ⟨dx, s _ _ e⟩
/-- a Ratio, or an int that stands for one -/
def NumV (C : Addr) (H : Hp) (v : V) (t b : Int) : Prop := (∃ a, v = .ref a ∧ RatAt C H a t b) ∨ (v = .int t ∧ b = 1)
theorem NumV.same {C : Addr} {H H' : Hp} {v : V} {t b : Int} (h : NumV C H v t b) (s : Same H H') : NumV C H' v t b := by
  rcases h with ⟨a, e, r⟩ | h
  · exact .inl ⟨a, e, r.same s⟩
  · exact .inr h
theorem NumV.intOr {C : Addr} {H : Hp} {v : V} {t b : Int} (h : NumV C H v t b) : IntOr C H v := by
  rcases h with ⟨a, rfl, dx, e⟩ | ⟨rfl, _⟩
  · exact .inr ⟨a, dx, _, rfl, e⟩
  · exact .inl ⟨t, rfl⟩
/-- what a new Ratio is -/
abbrev NewR (C : Addr) (H : Hp) (Q : VK) (t b : Int) : Prop := ∀ a H', Same H H' → RatAt C H' a t b → Q (.ref a) H'
def spInit (C : Addr) : Sp := fun vs H Q _ => ∃ x dx t b, vs = [.ref x, .int t, .int b] ∧ H x = some (.ins C dx []) ∧ 0 < b ∧ Sm 5000 t ∧ Sm 5000 b ∧ Q .non (upd (upd H x (.ins C dx [("top", .int (lo t b))])) x (.ins C dx (rfs (lo t b) (lb t b))))
def spIsInt : Sp := fun vs H Q _ => ∃ i, vs = [.int i] ∧ Q (.bl true) H
def spOf (C : Addr) : Sp := fun vs H Q _ => ∃ v t b, vs = [v] ∧ NumV C H v t b ∧ Sm 5000 t ∧ NewR C H Q t b
def spEndless (C : Addr) : Sp := fun vs H Q _ => ∃ x t b, vs = [.ref x] ∧ RatAt C H x t b ∧ Q (.bl (decide (b = 0))) H
/-- x op y: F and G reckon with both fractions -/
def spBin (C : Addr) (F G : Int → Int → Int → Int → Int) : Sp := fun vs H Q _ => ∃ x y t b u d, vs = [.ref x, y] ∧ RatAt C H x t b ∧ NumV C H y u d ∧ 0 < b ∧ 0 < d ∧ Sm 1000 t ∧ Sm 1000 b ∧ Sm 1000 u ∧ Sm 1000 d ∧ NewR C H Q (lo (F t b u d) (G t b u d)) (lb (F t b u d) (G t b u d))
def fAdd (t b u d : Int) : Int := t * d + u * b
def fSub (t b u d : Int) : Int := t * d - u * b
def fRsub (t b u d : Int) : Int := u * b - t * d
def fMul (t b u d : Int) : Int := t * u
def gAll (t b u d : Int) : Int := b * d
def gRev (t b u d : Int) : Int := d * b
def spNeg (C : Addr) : Sp := fun vs H Q _ => ∃ x t b, vs = [.ref x] ∧ RatAt C H x t b ∧ 0 < b ∧ Sm 1000 t ∧ Sm 1000 b ∧ NewR C H Q (lo (-t) b) (lb (-t) b)
def spLt (C : Addr) : Sp := fun vs H Q _ => ∃ x y t b u d, vs = [.ref x, y] ∧ RatAt C H x t b ∧ NumV C H y u d ∧ Sm 1000 t ∧ Sm 1000 b ∧ Sm 1000 u ∧ Sm 1000 d ∧ ∀ H', Same H H' → Q (.bl (decide (t * d < u * b))) H'
def spAbs (C : Addr) : Sp := fun vs H Q _ => ∃ x t b, vs = [.ref x] ∧ RatAt C H x t b ∧ Low t b ∧ Sm 1000 t ∧ Sm 1000 b ∧ NewR C H Q (if t < 0 then -t else t) b
/-- Ratio(t, b) -/
theorem mkR {C : Addr} {H : Hp} {Q : VK} {t b : Int} {E : XK} (b0 : 0 < b) (st : Sm 5000 t) (sb : Sm 5000 b) (k : NewR C H Q (lo t b) (lb t b)) :
    ∀ x dx, H x = none → H dx = none → dx ≠ x → spInit C [.ref x, .int t, .int b] (upd (upd H dx (.own x)) x (.ins C dx [])) (fun v H2 => v = .non ∧ Q (.ref x) H2) E := by
  intro x dx nx nd ne
  refine ⟨x, dx, t, b, rfl, upd_same, b0, st, sb, rfl, k x _ (fun a o e => ?_) ⟨dx, upd_same⟩⟩
  have h1 : a ≠ x := ne_of_none e nx
  rw [upd_ne h1, upd_ne h1, upd_ne h1, upd_ne (ne_of_none e nd)]
  exact e
end RR
namespace RR
open PySem PySem.Spec PyProof.Rows L2
theorem put_top (v : V) : putF "top" v [] = [(("top" : Str), v)] := rfl
theorem put_bottom (v w : V) : putF "bottom" w [(("top" : Str), v)] = [(("top" : Str), v), ("bottom", w)] := by
  show (if ("top" : Str) = "bottom" then [(("bottom" : Str), w)] else (("top" : Str), v) :: putF "bottom" w []) = _
  rw [if_neg (by decide +kernel : ¬ ("top" : Str) = "bottom")]
  rfl
theorem rfs_top (t b : Int) : (rfs t b).lookup ("top" : Str) = some (.int t) := rfl
theorem rfs_bottom (t b : Int) : (rfs t b).lookup ("bottom" : Str) = some (.int b) := by
  show (match ("bottom" : Str) == "top" with | true => some (V.int t) | false => ([(("bottom" : Str), V.int b)]).lookup ("bottom" : Str)) = _
  rw [show (("bottom" : Str) == "top") = false from by decide +kernel]
  rfl
end RR
namespace RR
open PySem PySem.Spec PyProof.Rows L2
/-- what the text says of the class Ratio -/
structure RC (K : PySem.W.Frag) (C : Addr) : Prop where
  cls : Cls K C
  nT : NoAttr K C "top"
  nB : NoAttr K C "bottom"
  ca : PySem.W.findIn K (.ref C) "__class__" = some (some (.builtin "object.__class__"))
  cn : PySem.W.specialIn K (.builtin "object.__class__") "__get__" = some (some (.builtin "getset_descriptor.__get__"))
  ct : PySem.W.takesIn K (.builtin "object.__class__") = some true
  cm : PySem.W.mroIn K C (.type "object") = some true
  k0 : PySem.W.kitOne K (.type "int") (.ref C) = some false
theorem RC.ty {K : PySem.W.Frag} {C a dx : Addr} {H : Hp} {fs : List (Str × V)} (T : RC K C) (e : H a = some (.ins C dx fs)) : TyX K H (.ref a) (.ref C) := .base (.ins e T.cls T.ca T.cn T.ct T.cm)
theorem kit_self {K : PySem.W.Frag} {C : Addr} : PySem.W.kitOne K (.ref C) (.ref C) = some true := if_pos (by simp)
theorem dec_int (a b : Int) : decide (V.int a = V.int b) = decide (a = b) := by
  by_cases h : a = b
  · subst h; simp
  · rw [decide_eq_false h, decide_eq_false fun z => h (V.int.inj z)]
theorem no_if {c A B : Prop} [Decidable c] (h : ¬ c) (b : B) : if c then A else B := by rw [if_neg h]; exact b
theorem dec_no {p : Prop} [Decidable p] (h : ¬ p) : ¬ decide p = true := fun z => h (of_decide_eq_true z)
end RR
namespace RR
theorem sm_0 {n : Nat} : Sm n 0 := Nat.two_pow_pos n
theorem sm_1 {n : Nat} (h : 0 < n) : Sm n 1 := Nat.lt_of_lt_of_le (show 1 < 2 ^ 1 by decide) (Nat.pow_le_pow_right (by decide) h)
end RR
set_option maxHeartbeats 4000000
namespace RR
open PySem PySem.Spec PyProof.Rows L2

theorem Same.at {H H' : Hp} {b : Addr} {o : HO} (s : Same H H') (h : H b = some o) : H' b = some o := s b o h
theorem Same.new {H : Hp} {p : Addr} {o : HO} (n : H p = none) : Same H (upd H p o) := fun _ _ e => hp_new e n
theorem same_new {H H1 : Hp} {p : Addr} {o : HO} (s : Same H H1) (n : H1 p = none) : Same H (upd H1 p o) := s.trans (Same.new n)
/-- an object that H does not know may change -/
theorem same_mut {H H1 : Hp} {p : Addr} {o : HO} (s : Same H H1) (n : H p = none) : Same H (upd H1 p o) := fun b u e => by
  rw [upd_ne (ne_of_none e n)]
  exact s b u e
theorem same_free {H H1 : Hp} {p : Addr} (s : Same H H1) (n : H1 p = none) : H p = none := s.free n

/-- a pair -/
abbrev Pr (H : Hp) (p : Addr) (t b : Int) : Prop := H p = some (.tup [.int t, .int b])
/-- a value is the ratio of a pair -/
def Fits (C : Addr) (H : Hp) (x y : V) : Prop := ∃ a p t b, x = .ref a ∧ y = .ref p ∧ RatAt C H a t b ∧ Pr H p t b ∧ Sm 1900 t ∧ Sm 1900 b
theorem Fits.same {C : Addr} {H H' : Hp} {x y : V} (h : Fits C H x y) (s : Same H H') : Fits C H' x y := by
  obtain ⟨a, p, t, b, e1, e2, r, q, st, sb⟩ := h
  exact ⟨a, p, t, b, e1, e2, r.same s, s _ _ q, st, sb⟩
inductive AreL (C : Addr) (H : Hp) : List V → List V → Prop
  | nil : AreL C H [] []
  | cons {x y : V} {xs ys : List V} : Fits C H x y → AreL C H xs ys → AreL C H (x :: xs) (y :: ys)
theorem AreL.len {C : Addr} {H : Hp} : ∀ {xs ys : List V}, AreL C H xs ys → xs.length = ys.length
  | _, _, .nil => rfl
  | _, _, .cons _ h => congrArg Nat.succ h.len
theorem AreL.same {C : Addr} {H H' : Hp} (s : Same H H') : ∀ {xs ys : List V}, AreL C H xs ys → AreL C H' xs ys
  | _, _, .nil => .nil
  | _, _, .cons f h => .cons (f.same s) (h.same s)
theorem AreL.get {C : Addr} {H : Hp} : ∀ {xs ys : List V}, AreL C H xs ys → ∀ i, i < ys.length → ∃ x y, xs[i]? = some x ∧ ys[i]? = some y ∧ Fits C H x y
  | _, _, .nil, i, h => absurd h (Nat.not_lt_zero i)
  | _, _, .cons (x := x) (y := y) f h, 0, _ => ⟨x, y, rfl, rfl, f⟩
  | _, _, .cons f h, i + 1, l => h.get i (Nat.lt_of_succ_lt_succ l)

def spLow : Sp := fun vs H Q _ => ∃ u l, vs = [.int u, .int l] ∧ 0 < l ∧ Sm 5000 l ∧ Sm 5000 u ∧ ∀ p H', Same H H' → H p = none → Pr H' p (lo u l) (lb u l) → Q (.ref p) H'
def spIs (C : Addr) : Sp := fun vs H Q _ => ∃ x y, vs = [x, y] ∧ Fits C H x y ∧ ∀ H', Same H H' → Q (.bl true) H'
def spMade (C : Addr) : Sp := fun vs H Q _ => ∃ p t b, vs = [.ref p] ∧ Pr H p t b ∧ Low t b ∧ Sm 5000 t ∧ Sm 5000 b ∧ NewR C H Q t b
def spFrac : Sp := fun vs H Q _ => ∃ p c ns a g, vs = [.ref p] ∧ PenAt H p c ns a g ∧ a ≤ 99000 ∧ ∀ q t b a' g' H', H' p = some (pen c a' g') → Keep p H H' → H q = none → Pr H' q t b → Low t b → Sm 100 t → Sm 100 b → a ≤ a' → a' ≤ a + 5 → Q (.ref q) H'
/-- the sum, the difference and the product as pairs -/
def spResults : Sp := fun vs H Q _ => ∃ p1 p2 t b u d, vs = [.ref p1, .ref p2] ∧ Pr H p1 t b ∧ Pr H p2 u d ∧ 0 < b ∧ 0 < d ∧ Sm 1000 t ∧ Sm 1000 b ∧ Sm 1000 u ∧ Sm 1000 d ∧
  ∀ q q1 q2 q3 H', Same H H' → H' q = some (.lst [.ref q1, .ref q2, .ref q3]) → Pr H' q1 (lo (fAdd t b u d) (gAll t b u d)) (lb (fAdd t b u d) (gAll t b u d)) →
    Pr H' q2 (lo (fSub t b u d) (gAll t b u d)) (lb (fSub t b u d) (gAll t b u d)) → Pr H' q3 (lo (fMul t b u d) (gAll t b u d)) (lb (fMul t b u d) (gAll t b u d)) → Q (.ref q) H'
structure AreW (C : Addr) (vs : List V) (H : Hp) (Q : VK) : Prop where
  ex : ∃ p q xs ys, vs = [.ref p, .ref q] ∧ H p = some (.lst xs) ∧ H q = some (.lst ys) ∧ ys.length < 1000 ∧ AreL C H xs ys ∧ ∀ H', Same H H' → Q (.bl true) H'
def spAre (C : Addr) : Sp := fun vs H Q _ => AreW C vs H Q
/-- what += , -= and *= make -/
def spPlace (C : Addr) : Sp := fun vs H Q _ => ∃ x y t b u d, vs = [x, y] ∧ NumV C H x t b ∧ NumV C H y u d ∧ ((∃ a, x = .ref a) ∨ ∃ a, y = .ref a) ∧ 0 < b ∧ 0 < d ∧ Sm 1000 t ∧ Sm 1000 b ∧ Sm 1000 u ∧ Sm 1000 d ∧
  ∀ q q1 q2 q3 H', Same H H' → H' q = some (.lst [.ref q1, .ref q2, .ref q3]) → RatAt C H' q1 (lo (fAdd t b u d) (gAll t b u d)) (lb (fAdd t b u d) (gAll t b u d)) →
    RatAt C H' q2 (lo (fSub t b u d) (gAll t b u d)) (lb (fSub t b u d) (gAll t b u d)) → RatAt C H' q3 (lo (fMul t b u d) (gAll t b u d)) (lb (fMul t b u d) (gAll t b u d)) → Q (.ref q) H'
def spPair : Sp := fun vs H Q _ => ∃ p1 p2 t b u d, vs = [.ref p1, .ref p2] ∧ Pr H p1 t b ∧ Pr H p2 u d ∧ Low t b ∧ Low u d ∧ Sm 100 t ∧ Sm 100 b ∧ Sm 100 u ∧ Sm 100 d ∧ ∀ H', Same H H' → Q (.bl true) H'
def spAlone : Sp := fun vs H Q _ => ∃ p t b, vs = [.ref p] ∧ Pr H p t b ∧ Low t b ∧ Sm 100 t ∧ Sm 100 b ∧ ∀ H', Same H H' → Q (.bl true) H'
def spLaw (K : PySem.W.Frag) : Sp := fun vs H Q _ => ∃ (a : Addr) (ns : List Int), vs = [.ref a] ∧ SqL K H a (ns.map V.int) ∧ ns.length ≤ 63 ∧ ∀ H', Q (.bl true) H'

/-! ### reckoning with either order -/
theorem add_comm4 (t b u d : Int) : fAdd t b u d = fAdd u d t b := by unfold fAdd; omega
theorem gall_comm (t b u d : Int) : gAll t b u d = gAll u d t b := by unfold gAll; rw [Int.mul_comm]
theorem mul_comm4 (t b u d : Int) : fMul t b u d = fMul u d t b := by unfold fMul; rw [Int.mul_comm]
theorem rsub_eq (t b u d : Int) : fRsub t b u d = fSub u d t b := rfl
theorem grev_eq (t b u d : Int) : gRev t b u d = gAll u d t b := rfl

/-- x op y of a Ratio and a number, on either side -/
theorem opL {C : Addr} {H : Hp} {Q : VK} {E : XK} {F G : Int → Int → Int → Int → Int} {a : Addr} {y : V} {t b u d : Int} (r : RatAt C H a t b) (n : NumV C H y u d) (b0 : 0 < b) (d0 : 0 < d) (st : Sm 1000 t) (sb : Sm 1000 b) (su : Sm 1000 u) (sd : Sm 1000 d)
    (k : NewR C H Q (lo (F t b u d) (G t b u d)) (lb (F t b u d) (G t b u d))) : rOpL C (spBin C F G) E (.ref a) y H Q := by
  obtain ⟨dx, e⟩ := r
  exact ⟨⟨a, dx, _, rfl, e⟩, n.intOr, a, y, t, b, u, d, rfl, ⟨dx, e⟩, n, b0, d0, st, sb, su, sd, k⟩
theorem opR {C : Addr} {H : Hp} {Q : VK} {E : XK} {F G : Int → Int → Int → Int → Int} {a : Addr} {n t b : Int} (r : RatAt C H a t b) (b0 : 0 < b) (st : Sm 1000 t) (sb : Sm 1000 b) (sn : Sm 1000 n)
    (k : NewR C H Q (lo (F t b n 1) (G t b n 1)) (lb (F t b n 1) (G t b n 1))) : rOpR C (spBin C F G) E (.int n) (.ref a) H Q := by
  obtain ⟨dx, e⟩ := r
  exact ⟨⟨n, rfl⟩, ⟨a, dx, _, rfl, e⟩, a, .int n, t, b, n, 1, rfl, ⟨dx, e⟩, .inr ⟨rfl, rfl⟩, b0, by decide, st, sb, sn, sm_1 (by decide), k⟩
theorem opI {C : Addr} {H : Hp} {Q : VK} {E : XK} {F G F' G' : Int → Int → Int → Int → Int} (hF : ∀ t b u d, F' t b u d = F u d t b) (hG : ∀ t b u d, G' t b u d = G u d t b) {x y : V} {t b u d : Int} (r : NumV C H x t b) (n : NumV C H y u d)
    (or : (∃ a, x = .ref a) ∨ ∃ a, y = .ref a) (b0 : 0 < b) (d0 : 0 < d) (st : Sm 1000 t) (sb : Sm 1000 b) (su : Sm 1000 u) (sd : Sm 1000 d) (k : NewR C H Q (lo (F t b u d) (G t b u d)) (lb (F t b u d) (G t b u d))) :
    rOpI C (spBin C F G) (spBin C F' G') E x y H Q := by
  rcases r with ⟨a, rfl, r⟩ | ⟨rfl, rfl⟩
  · exact .inl (opL r n b0 d0 st sb su sd k)
  · rcases n with ⟨a, rfl, r⟩ | ⟨rfl, rfl⟩
    · refine .inr (opR r d0 su sd st ?_)
      rw [hF, hG]
      exact k
    · rcases or with ⟨a, z⟩ | ⟨a, z⟩ <;> cases z
end RR
namespace RR
open PySem PySem.Spec PyProof.Rows L2
theorem cut63 {ns : List Int} (h : ns.length ≤ 63) : cutV (ns.map V.int) none (some 63) = ns.map V.int := by
  unfold cutV
  have e1 : HT.sIx (ns.map V.int).length 0 none = 0 := rfl
  have e2 : HT.sIx (ns.map V.int).length (ns.map V.int).length (some 63) = ns.length := by
    have z := HT.sIx_nat (ns.map V.int).length (ns.map V.int).length 63
    rw [List.length_map] at z ⊢
    rw [show ((63 : Nat) : Int) = 63 from rfl] at z
    rw [z]
    omega
  rw [e1, e2, List.drop_zero, Nat.sub_zero]
  exact List.take_of_length_le (by rw [List.length_map]; exact Nat.le_refl _)
theorem gcd_step {f s : Int} (f0 : 0 ≤ f) (s0 : 0 < s) : Nat.gcd s.natAbs (f % s).natAbs = Nat.gcd f.natAbs s.natAbs := by
  obtain ⟨a, rfl⟩ := Int.eq_ofNat_of_zero_le f0
  obtain ⟨b, rfl⟩ := Int.eq_ofNat_of_zero_le (Int.le_of_lt s0)
  rw [← Int.natCast_emod, Int.natAbs_natCast, Int.natAbs_natCast, Int.natAbs_natCast, Nat.gcd_comm a b, Nat.gcd_rec b a, Nat.gcd_comm]
end RR
namespace RR
open PySem PySem.Spec PyProof.Rows L2
/-- a list of ints of which P holds -/
def AllI (P : Int → Prop) (xs : List V) : Prop := ∀ x ∈ xs, ∃ n, x = .int n ∧ P n
theorem allI_nil {P : Int → Prop} : AllI P [] := fun _ h => by cases h
theorem allI_cons {P : Int → Prop} {n : Int} {xs : List V} (h : P n) (t : AllI P xs) : AllI P (.int n :: xs) := fun x hx => by
  rcases List.mem_cons.mp hx with rfl | hx
  · exact ⟨n, rfl, h⟩
  · exact t x hx
theorem sm_low {d m : Int} {n : Nat} (d0 : 0 ≤ d) (d1 : d < m) (h : Sm n m) : Sm n d := by
  have h' : m.natAbs < 2 ^ n := h
  show d.natAbs < 2 ^ n
  omega
theorem sign_cases (k : Bool) : (1 - 2 * (if k = true then 1 else 0) : Int) = 1 ∨ (1 - 2 * (if k = true then 1 else 0) : Int) = -1 := by cases k <;> simp
theorem sm_sign {s n : Int} {m : Nat} (h : s = 1 ∨ s = -1) (k : Sm m n) : Sm m (s * n) := by
  rcases h with rfl | rfl
  · rw [Int.one_mul]; exact k
  · rw [Int.neg_mul, Int.one_mul]; exact sm_neg k
end RR
namespace RR
open PySem PySem.Spec PyProof.Rows L2
/-- three pairs; three ratios -/
def ResP (H : Hp) (q : Addr) (t b u d : Int) : Prop := ∃ q1 q2 q3, H q = some (.lst [.ref q1, .ref q2, .ref q3]) ∧ Pr H q1 (lo (fAdd t b u d) (gAll t b u d)) (lb (fAdd t b u d) (gAll t b u d)) ∧
  Pr H q2 (lo (fSub t b u d) (gAll t b u d)) (lb (fSub t b u d) (gAll t b u d)) ∧ Pr H q3 (lo (fMul t b u d) (gAll t b u d)) (lb (fMul t b u d) (gAll t b u d))
def ResR (C : Addr) (H : Hp) (q : Addr) (t b u d : Int) : Prop := ∃ q1 q2 q3, H q = some (.lst [.ref q1, .ref q2, .ref q3]) ∧ RatAt C H q1 (lo (fAdd t b u d) (gAll t b u d)) (lb (fAdd t b u d) (gAll t b u d)) ∧
  RatAt C H q2 (lo (fSub t b u d) (gAll t b u d)) (lb (fSub t b u d) (gAll t b u d)) ∧ RatAt C H q3 (lo (fMul t b u d) (gAll t b u d)) (lb (fMul t b u d) (gAll t b u d))
theorem ResP.same {H H' : Hp} {q : Addr} {t b u d : Int} (h : ResP H q t b u d) (s : Same H H') : ResP H' q t b u d := by
  obtain ⟨q1, q2, q3, e, a, b, c⟩ := h
  exact ⟨q1, q2, q3, s _ _ e, s _ _ a, s _ _ b, s _ _ c⟩
theorem resR_of {C : Addr} {G4 G5 G6 : Hp} {c1 c2 c3 L : Addr} {t b u d : Int} (v1 : RatAt C G4 c1 (lo (fAdd t b u d) (gAll t b u d)) (lb (fAdd t b u d) (gAll t b u d))) (s5 : Same G4 G5)
    (v2 : RatAt C G5 c2 (lo (fSub t b u d) (gAll t b u d)) (lb (fSub t b u d) (gAll t b u d))) (s6 : Same G5 G6) (v3 : RatAt C G6 c3 (lo (fMul t b u d) (gAll t b u d)) (lb (fMul t b u d) (gAll t b u d))) (n : G6 L = none) :
    ResR C (upd G6 L (.lst [.ref c1, .ref c2, .ref c3])) L t b u d :=
  ⟨c1, c2, c3, upd_same, v1.same (s5.trans (s6.trans (Same.new n))), v2.same (s6.trans (Same.new n)), v3.same (Same.new n)⟩
theorem szs {t b u d : Int} (b0 : 0 < b) (d0 : 0 < d) (st : Sm 100 t) (sb : Sm 100 b) (su : Sm 100 u) (sd : Sm 100 d) : (Sm 1900 (lo (fAdd t b u d) (gAll t b u d)) ∧ Sm 1900 (lb (fAdd t b u d) (gAll t b u d))) ∧
    (Sm 1900 (lo (fSub t b u d) (gAll t b u d)) ∧ Sm 1900 (lb (fSub t b u d) (gAll t b u d))) ∧ (Sm 1900 (lo (fMul t b u d) (gAll t b u d)) ∧ Sm 1900 (lb (fMul t b u d) (gAll t b u d))) := by
  have g : Sm 1900 (gAll t b u d) := sm_mono (sm_mul sb sd) (by decide)
  have g0 : 0 < gAll t b u d := Int.mul_pos b0 d0
  have f1 : Sm 1900 (fAdd t b u d) := sm_mono (sm_add (sm_mul st sd) (sm_mul su sb)) (by decide)
  have f2 : Sm 1900 (fSub t b u d) := sm_mono (sm_sub (sm_mul st sd) (sm_mul su sb)) (by decide)
  have f3 : Sm 1900 (fMul t b u d) := sm_mono (sm_mul st su) (by decide)
  exact ⟨⟨lo_small f1 g0, lb_small g g0⟩, ⟨lo_small f2 g0, lb_small g g0⟩, lo_small f3 g0, lb_small g g0⟩
theorem are3 {C : Addr} {H : Hp} {Q : VK} {p q : Addr} {t b u d : Int} (r : ResR C H p t b u d) (e : ResP H q t b u d) (b0 : 0 < b) (d0 : 0 < d) (st : Sm 100 t) (sb : Sm 100 b) (su : Sm 100 u) (sd : Sm 100 d)
    (k : ∀ H', Same H H' → Q (.bl true) H') : AreW C [.ref p, .ref q] H Q := by
  obtain ⟨p1, p2, p3, hp, r1, r2, r3⟩ := r
  obtain ⟨q1, q2, q3, hq, e1, e2, e3⟩ := e
  obtain ⟨⟨a1, a2⟩, ⟨b1, b2⟩, c1, c2⟩ := szs b0 d0 st sb su sd
  exact ⟨p, q, _, _, rfl, hp, hq, by show 3 < 1000; decide, .cons ⟨p1, q1, _, _, rfl, rfl, r1, e1, a1, a2⟩ (.cons ⟨p2, q2, _, _, rfl, rfl, r2, e2, b1, b2⟩ (.cons ⟨p3, q3, _, _, rfl, rfl, r3, e3, c1, c2⟩ .nil)), k⟩
theorem opR2 {C : Addr} {H : Hp} {Q : VK} {E : XK} {F G F' G' : Int → Int → Int → Int → Int} (hF : ∀ t b u d, F' t b u d = F u d t b) (hG : ∀ t b u d, G' t b u d = G u d t b) {a : Addr} {n t b : Int} (r : RatAt C H a t b) (b0 : 0 < b)
    (st : Sm 1000 t) (sb : Sm 1000 b) (sn : Sm 1000 n) (k : NewR C H Q (lo (F n 1 t b) (G n 1 t b)) (lb (F n 1 t b) (G n 1 t b))) : rOpR C (spBin C F' G') E (.int n) (.ref a) H Q := by
  refine opR r b0 st sb sn ?_
  rw [hF, hG]
  exact k
end RR
namespace RR
open PySem PySem.Spec PyProof.Rows L2
theorem negL {C : Addr} {H : Hp} {Q : VK} {E : XK} {a : Addr} {t b : Int} (r : RatAt C H a t b) (l : Low t b) (st : Sm 1000 t) (sb : Sm 1000 b) (k : NewR C H Q (-t) b) : rNegO C (spNeg C) E (.ref a) H Q := by
  obtain ⟨dx, e⟩ := r
  refine ⟨⟨a, dx, _, rfl, e⟩, a, t, b, rfl, ⟨dx, e⟩, l.1, st, sb, ?_⟩
  rw [low_lo (low_neg l), low_lb (low_neg l)]
  exact k
theorem absL {C : Addr} {H : Hp} {Q : VK} {E : XK} {a : Addr} {t b : Int} (r : RatAt C H a t b) (l : Low t b) (st : Sm 1000 t) (sb : Sm 1000 b) (k : NewR C H Q (if t < 0 then -t else t) b) : rAbsO C (spAbs C) E [.ref a] H Q := by
  obtain ⟨dx, e⟩ := r
  exact ⟨⟨a, dx, _, rfl, e⟩, a, t, b, rfl, ⟨dx, e⟩, l, st, sb, k⟩
theorem abs_neg_eq (t : Int) : (if -t < 0 then - -t else -t) = (if t < 0 then -t else t) := by split <;> split <;> omega
theorem sub_self0 (t b : Int) : lo (fSub t b t b) (gAll t b t b) = 0 := by rw [show fSub t b t b = 0 by unfold fSub; omega]; exact lo_zero
theorem sub_self1 {t b : Int} (h : 0 < b) : lb (fSub t b t b) (gAll t b t b) = 1 := by rw [show fSub t b t b = 0 by unfold fSub; omega]; exact lb_zero (Int.mul_pos h h)
theorem add_neg0 (t b : Int) : lo (fAdd t b (-t) b) (gAll t b (-t) b) = 0 := by rw [show fAdd t b (-t) b = 0 by unfold fAdd; rw [Int.neg_mul]; omega]; exact lo_zero
theorem add_neg1 {t b : Int} (h : 0 < b) : lb (fAdd t b (-t) b) (gAll t b (-t) b) = 1 := by rw [show fAdd t b (-t) b = 0 by unfold fAdd; rw [Int.neg_mul]; omega]; exact lb_zero (Int.mul_pos h h)
theorem mul_zero0 (t b : Int) : lo (fMul t b 0 1) (gAll t b 0 1) = 0 := by rw [show fMul t b 0 1 = 0 by unfold fMul; omega]; exact lo_zero
theorem mul_zero1 {t b : Int} (h : 0 < b) : lb (fMul t b 0 1) (gAll t b 0 1) = 1 := by rw [show fMul t b 0 1 = 0 by unfold fMul; omega]; exact lb_zero (by unfold gAll; omega)
theorem mul_one0 {t b : Int} (h : Low t b) : lo (fMul t b 1 1) (gAll t b 1 1) = t := by rw [show fMul t b 1 1 = t by unfold fMul; omega, show gAll t b 1 1 = b by unfold gAll; omega]; exact low_lo h
theorem mul_one1 {t b : Int} (h : Low t b) : lb (fMul t b 1 1) (gAll t b 1 1) = b := by rw [show fMul t b 1 1 = t by unfold fMul; omega, show gAll t b 1 1 = b by unfold gAll; omega]; exact low_lb h
end RR
set_option maxHeartbeats 4000000
namespace RR
open PySem PySem.Spec PyProof.Rows L2
local macro_rules | `(tactic| walk_at "hp") => `(tactic| first | assumption | exact upd_same | (refine hp_new ?_ (by assumption); walk_at "hp") | (refine hp_mut ?_ (by first | assumption | (apply Ne.symm; assumption)); walk_at "hp") | (refine Same.at (by assumption) ?_; walk_at "hp"))
local macro_rules | `(tactic| walk_at "sq") => `(tactic| exact SqL.of (by walk_at "hp"))
local macro_rules | `(tactic| walk_at "sqT") => `(tactic| exact SqT.of (by walk_at "hp"))

def top (i : Nat) : Stmt := PySem.Challenge.pw_sixasone_k02_sums_and_products.main.body.getD i (.Pass ⟨0, 0, 0, 0⟩)
abbrev s_is_int : Stmt := top 9
abbrev N_is_int : List Str := ["thing"]
theorem sc_is_int : FnScope N_is_int ["thing"] (defScope s_is_int) := ⟨rfl, rfl, rfl, by decide +kernel, rfl, by decide +kernel, by decide +kernel⟩
abbrev s_Ratio___init__ : Stmt := inClass (top 14) 0
abbrev N_Ratio___init__ : List Str := ["self", "top", "bottom", "shared"]
theorem sc_Ratio___init__ : FnScope N_Ratio___init__ ["self", "top", "bottom"] (defScope s_Ratio___init__) := ⟨rfl, rfl, rfl, by decide +kernel, rfl, by decide +kernel, by decide +kernel⟩
abbrev s_Ratio_of : Stmt := inClass (top 14) 2
abbrev N_Ratio_of : List Str := ["thing"]
theorem sc_Ratio_of : FnScope N_Ratio_of ["thing"] (defScope s_Ratio_of) := ⟨rfl, rfl, rfl, by decide +kernel, rfl, by decide +kernel, by decide +kernel⟩
abbrev s_Ratio_is_endless : Stmt := inClass (top 14) 7
abbrev N_Ratio_is_endless : List Str := ["self"]
theorem sc_Ratio_is_endless : FnScope N_Ratio_is_endless ["self"] (defScope s_Ratio_is_endless) := ⟨rfl, rfl, rfl, by decide +kernel, rfl, by decide +kernel, by decide +kernel⟩
abbrev s_Ratio___add__ : Stmt := inClass (top 14) 10
abbrev N_Ratio___add__ : List Str := ["self", "other"]
theorem sc_Ratio___add__ : FnScope N_Ratio___add__ ["self", "other"] (defScope s_Ratio___add__) := ⟨rfl, rfl, rfl, by decide +kernel, rfl, by decide +kernel, by decide +kernel⟩
abbrev s_Ratio___radd__ : Stmt := inClass (top 14) 11
abbrev N_Ratio___radd__ : List Str := ["self", "other"]
theorem sc_Ratio___radd__ : FnScope N_Ratio___radd__ ["self", "other"] (defScope s_Ratio___radd__) := ⟨rfl, rfl, rfl, by decide +kernel, rfl, by decide +kernel, by decide +kernel⟩
abbrev s_Ratio___sub__ : Stmt := inClass (top 14) 12
abbrev N_Ratio___sub__ : List Str := ["self", "other"]
theorem sc_Ratio___sub__ : FnScope N_Ratio___sub__ ["self", "other"] (defScope s_Ratio___sub__) := ⟨rfl, rfl, rfl, by decide +kernel, rfl, by decide +kernel, by decide +kernel⟩
abbrev s_Ratio___rsub__ : Stmt := inClass (top 14) 13
abbrev N_Ratio___rsub__ : List Str := ["self", "other"]
theorem sc_Ratio___rsub__ : FnScope N_Ratio___rsub__ ["self", "other"] (defScope s_Ratio___rsub__) := ⟨rfl, rfl, rfl, by decide +kernel, rfl, by decide +kernel, by decide +kernel⟩
abbrev s_Ratio___mul__ : Stmt := inClass (top 14) 14
abbrev N_Ratio___mul__ : List Str := ["self", "other"]
theorem sc_Ratio___mul__ : FnScope N_Ratio___mul__ ["self", "other"] (defScope s_Ratio___mul__) := ⟨rfl, rfl, rfl, by decide +kernel, rfl, by decide +kernel, by decide +kernel⟩
abbrev s_Ratio___rmul__ : Stmt := inClass (top 14) 15
abbrev N_Ratio___rmul__ : List Str := ["self", "other"]
theorem sc_Ratio___rmul__ : FnScope N_Ratio___rmul__ ["self", "other"] (defScope s_Ratio___rmul__) := ⟨rfl, rfl, rfl, by decide +kernel, rfl, by decide +kernel, by decide +kernel⟩
abbrev s_Ratio___neg__ : Stmt := inClass (top 14) 20
abbrev N_Ratio___neg__ : List Str := ["self"]
theorem sc_Ratio___neg__ : FnScope N_Ratio___neg__ ["self"] (defScope s_Ratio___neg__) := ⟨rfl, rfl, rfl, by decide +kernel, rfl, by decide +kernel, by decide +kernel⟩
abbrev s_Ratio___abs__ : Stmt := inClass (top 14) 21
abbrev N_Ratio___abs__ : List Str := ["self"]
theorem sc_Ratio___abs__ : FnScope N_Ratio___abs__ ["self"] (defScope s_Ratio___abs__) := ⟨rfl, rfl, rfl, by decide +kernel, rfl, by decide +kernel, by decide +kernel⟩
abbrev s_Ratio___lt__ : Stmt := inClass (top 14) 23
abbrev N_Ratio___lt__ : List Str := ["self", "other"]
theorem sc_Ratio___lt__ : FnScope N_Ratio___lt__ ["self", "other"] (defScope s_Ratio___lt__) := ⟨rfl, rfl, rfl, by decide +kernel, rfl, by decide +kernel, by decide +kernel⟩
abbrev s__law_pen : Stmt := top 16
abbrev N__law_pen : List Str := ["_law_script"]
theorem sc__law_pen : FnScope N__law_pen ["_law_script"] (defScope s__law_pen) := ⟨rfl, rfl, rfl, by decide +kernel, rfl, by decide +kernel, by decide +kernel⟩
abbrev s__law_draw : Stmt := top 17
abbrev N__law_draw : List Str := ["_law_pen_here", "_law_many", "_law_digit", "_law_at", "_law_cell", "_law_great", "_law_blended"]
theorem sc__law_draw : FnScope N__law_draw ["_law_pen_here", "_law_many"] (defScope s__law_draw) := ⟨rfl, rfl, rfl, by decide +kernel, rfl, by decide +kernel, by decide +kernel⟩
abbrev s__law_pick : Stmt := top 18
abbrev N__law_pick : List Str := ["_law_pen_here", "_law_some"]
theorem sc__law_pick : FnScope N__law_pick ["_law_pen_here", "_law_some"] (defScope s__law_pick) := ⟨rfl, rfl, rfl, by decide +kernel, rfl, by decide +kernel, by decide +kernel⟩
abbrev s__law_low : Stmt := top 19
abbrev N__law_low : List Str := ["_law_upper", "_law_lower", "_law_first", "_law_second"]
theorem sc__law_low : FnScope N__law_low ["_law_upper", "_law_lower"] (defScope s__law_low) := ⟨rfl, rfl, rfl, by decide +kernel, rfl, by decide +kernel, by decide +kernel⟩
abbrev s__law_is : Stmt := top 20
abbrev N__law_is : List Str := ["_law_found", "_law_pair"]
theorem sc__law_is : FnScope N__law_is ["_law_found", "_law_pair"] (defScope s__law_is) := ⟨rfl, rfl, rfl, by decide +kernel, rfl, by decide +kernel, by decide +kernel⟩
abbrev s__law_made : Stmt := top 21
abbrev N__law_made : List Str := ["_law_pair"]
theorem sc__law_made : FnScope N__law_made ["_law_pair"] (defScope s__law_made) := ⟨rfl, rfl, rfl, by decide +kernel, rfl, by decide +kernel, by decide +kernel⟩
abbrev s__law_fraction : Stmt := top 22
abbrev N__law_fraction : List Str := ["_law_pen_here", "_law_tops", "_law_bottoms", "_law_sign"]
theorem sc__law_fraction : FnScope N__law_fraction ["_law_pen_here"] (defScope s__law_fraction) := ⟨rfl, rfl, rfl, by decide +kernel, rfl, by decide +kernel, by decide +kernel⟩
abbrev s__law_results : Stmt := top 23
abbrev N__law_results : List Str := ["_law_one", "_law_other", "_law_found"]
theorem sc__law_results : FnScope N__law_results ["_law_one", "_law_other"] (defScope s__law_results) := ⟨rfl, rfl, rfl, by decide +kernel, rfl, by decide +kernel, by decide +kernel⟩
abbrev s__law_are : Stmt := top 24
abbrev N__law_are : List Str := ["_law_found", "_law_due", "_law_at"]
theorem sc__law_are : FnScope N__law_are ["_law_found", "_law_due"] (defScope s__law_are) := ⟨rfl, rfl, rfl, by decide +kernel, rfl, by decide +kernel, by decide +kernel⟩
abbrev s__law_in_place : Stmt := top 25
abbrev N__law_in_place : List Str := ["_law_left", "_law_right", "_law_first", "_law_second", "_law_third"]
theorem sc__law_in_place : FnScope N__law_in_place ["_law_left", "_law_right"] (defScope s__law_in_place) := ⟨rfl, rfl, rfl, by decide +kernel, rfl, by decide +kernel, by decide +kernel⟩
abbrev s__law_pair_right : Stmt := top 26
abbrev N__law_pair_right : List Str := ["_law_one", "_law_other", "_law_left", "_law_right", "_law_due", "_law_number", "_law_back"]
theorem sc__law_pair_right : FnScope N__law_pair_right ["_law_one", "_law_other"] (defScope s__law_pair_right) := ⟨rfl, rfl, rfl, by decide +kernel, rfl, by decide +kernel, by decide +kernel⟩
abbrev s__law_alone_right : Stmt := top 27
abbrev N__law_alone_right : List Str := ["_law_one", "_law_here", "_law_back", "_law_size", "_law_found"]
theorem sc__law_alone_right : FnScope N__law_alone_right ["_law_one"] (defScope s__law_alone_right) := ⟨rfl, rfl, rfl, by decide +kernel, rfl, by decide +kernel, by decide +kernel⟩
abbrev s_law : Stmt := top 28
abbrev N_law : List Str := ["_law_script", "_law_pen_here", "_law_spin", "_law_one", "_law_other", "_law_way"]
theorem sc_law : FnScope N_law ["_law_script"] (defScope s_law) := ⟨rfl, rfl, rfl, by decide +kernel, rfl, by decide +kernel, by decide +kernel⟩
structure TX (K : PySem.W.Frag) (mg : Str → Option Value) : Type where
  b_int : mg "int" = none
  b_bool : mg "bool" = none
  b_isinstance : mg "isinstance" = none
  b_list : mg "list" = none
  b_len : mg "len" = none
  b_abs : mg "abs" = none
  b_repr : mg "repr" = none
  b_range : mg "range" = none
  f_is_int : Addr
  d_is_int : FuncData
  F_is_int : Fun K "is_int" "is_int" s_is_int f_is_int d_is_int
  m_is_int : mg "is_int" = some (.ref f_is_int)
  f__law_pen : Addr
  d__law_pen : FuncData
  F__law_pen : Fun K "_law_pen" "_law_pen" s__law_pen f__law_pen d__law_pen
  m__law_pen : mg "_law_pen" = some (.ref f__law_pen)
  f__law_draw : Addr
  d__law_draw : FuncData
  F__law_draw : Fun K "_law_draw" "_law_draw" s__law_draw f__law_draw d__law_draw
  m__law_draw : mg "_law_draw" = some (.ref f__law_draw)
  f__law_pick : Addr
  d__law_pick : FuncData
  F__law_pick : Fun K "_law_pick" "_law_pick" s__law_pick f__law_pick d__law_pick
  m__law_pick : mg "_law_pick" = some (.ref f__law_pick)
  f__law_low : Addr
  d__law_low : FuncData
  F__law_low : Fun K "_law_low" "_law_low" s__law_low f__law_low d__law_low
  m__law_low : mg "_law_low" = some (.ref f__law_low)
  f__law_is : Addr
  d__law_is : FuncData
  F__law_is : Fun K "_law_is" "_law_is" s__law_is f__law_is d__law_is
  m__law_is : mg "_law_is" = some (.ref f__law_is)
  f__law_made : Addr
  d__law_made : FuncData
  F__law_made : Fun K "_law_made" "_law_made" s__law_made f__law_made d__law_made
  m__law_made : mg "_law_made" = some (.ref f__law_made)
  f__law_fraction : Addr
  d__law_fraction : FuncData
  F__law_fraction : Fun K "_law_fraction" "_law_fraction" s__law_fraction f__law_fraction d__law_fraction
  m__law_fraction : mg "_law_fraction" = some (.ref f__law_fraction)
  f__law_results : Addr
  d__law_results : FuncData
  F__law_results : Fun K "_law_results" "_law_results" s__law_results f__law_results d__law_results
  m__law_results : mg "_law_results" = some (.ref f__law_results)
  f__law_are : Addr
  d__law_are : FuncData
  F__law_are : Fun K "_law_are" "_law_are" s__law_are f__law_are d__law_are
  m__law_are : mg "_law_are" = some (.ref f__law_are)
  f__law_in_place : Addr
  d__law_in_place : FuncData
  F__law_in_place : Fun K "_law_in_place" "_law_in_place" s__law_in_place f__law_in_place d__law_in_place
  m__law_in_place : mg "_law_in_place" = some (.ref f__law_in_place)
  f__law_pair_right : Addr
  d__law_pair_right : FuncData
  F__law_pair_right : Fun K "_law_pair_right" "_law_pair_right" s__law_pair_right f__law_pair_right d__law_pair_right
  m__law_pair_right : mg "_law_pair_right" = some (.ref f__law_pair_right)
  f__law_alone_right : Addr
  d__law_alone_right : FuncData
  F__law_alone_right : Fun K "_law_alone_right" "_law_alone_right" s__law_alone_right f__law_alone_right d__law_alone_right
  m__law_alone_right : mg "_law_alone_right" = some (.ref f__law_alone_right)
  f_law : Addr
  d_law : FuncData
  F_law : Fun K "law" "law" s_law f_law d_law
  m_law : mg "law" = some (.ref f_law)
  C_Ratio : Addr
  m_Ratio : mg "Ratio" = some (.ref C_Ratio)
  f_Ratio_of : Addr
  d_Ratio_of : FuncData
  F_Ratio_of : Fun K "of" "Ratio.of" s_Ratio_of f_Ratio_of d_Ratio_of
  f_Ratio_is_endless : Addr
  d_Ratio_is_endless : FuncData
  F_Ratio_is_endless : Fun K "is_endless" "Ratio.is_endless" s_Ratio_is_endless f_Ratio_is_endless d_Ratio_is_endless
  f_Ratio___add__ : Addr
  d_Ratio___add__ : FuncData
  F_Ratio___add__ : Fun K "__add__" "Ratio.__add__" s_Ratio___add__ f_Ratio___add__ d_Ratio___add__
  f_Ratio___radd__ : Addr
  d_Ratio___radd__ : FuncData
  F_Ratio___radd__ : Fun K "__radd__" "Ratio.__radd__" s_Ratio___radd__ f_Ratio___radd__ d_Ratio___radd__
  f_Ratio___sub__ : Addr
  d_Ratio___sub__ : FuncData
  F_Ratio___sub__ : Fun K "__sub__" "Ratio.__sub__" s_Ratio___sub__ f_Ratio___sub__ d_Ratio___sub__
  f_Ratio___rsub__ : Addr
  d_Ratio___rsub__ : FuncData
  F_Ratio___rsub__ : Fun K "__rsub__" "Ratio.__rsub__" s_Ratio___rsub__ f_Ratio___rsub__ d_Ratio___rsub__
  f_Ratio___mul__ : Addr
  d_Ratio___mul__ : FuncData
  F_Ratio___mul__ : Fun K "__mul__" "Ratio.__mul__" s_Ratio___mul__ f_Ratio___mul__ d_Ratio___mul__
  f_Ratio___rmul__ : Addr
  d_Ratio___rmul__ : FuncData
  F_Ratio___rmul__ : Fun K "__rmul__" "Ratio.__rmul__" s_Ratio___rmul__ f_Ratio___rmul__ d_Ratio___rmul__
  f_Ratio___neg__ : Addr
  d_Ratio___neg__ : FuncData
  F_Ratio___neg__ : Fun K "__neg__" "Ratio.__neg__" s_Ratio___neg__ f_Ratio___neg__ d_Ratio___neg__
  f_Ratio___abs__ : Addr
  d_Ratio___abs__ : FuncData
  F_Ratio___abs__ : Fun K "__abs__" "Ratio.__abs__" s_Ratio___abs__ f_Ratio___abs__ d_Ratio___abs__
  f_Ratio___lt__ : Addr
  d_Ratio___lt__ : FuncData
  F_Ratio___lt__ : Fun K "__lt__" "Ratio.__lt__" s_Ratio___lt__ f_Ratio___lt__ d_Ratio___lt__
  rc : RC K C_Ratio
  m_gcd : mg "gcd" = some (.builtin "math.gcd")
  f_Ratio___init__ : Addr
  d_Ratio___init__ : FuncData
  F_Ratio___init__ : FunD K "__init__" "Ratio.__init__" (defArgs s_Ratio___init__) (defBody s_Ratio___init__) (defScope s_Ratio___init__) [.int 1] [] f_Ratio___init__ d_Ratio___init__
  mk_Ratio : Mk K C_Ratio f_Ratio___init__
  bd1 : ∃ ds, Vals [V.int 1] ds ∧ Binds K d_Ratio___init__ ["self", "top", "bottom"] ds
  bd2 : ∃ ds, Vals [] ds ∧ Binds K d_Ratio___init__ ["self", "top", "bottom"] ds
  p_is_endless : Addr
  pr_is_endless : PropOf K C_Ratio "is_endless" p_is_endless f_Ratio_is_endless
  mc_Ratio : Value
  p_of : Addr
  st_of : SMet K C_Ratio mc_Ratio "of" p_of f_Ratio_of
  op_add : BinOf K C_Ratio .Add f_Ratio___add__ (some (.ref f_Ratio___radd__)) (some (.builtin "int.__add__")) (some (.builtin "int.__radd__"))
  op_sub : BinOf K C_Ratio .Sub f_Ratio___sub__ (some (.ref f_Ratio___rsub__)) (some (.builtin "int.__sub__")) (some (.builtin "int.__rsub__"))
  op_mul : BinOf K C_Ratio .Mult f_Ratio___mul__ (some (.ref f_Ratio___rmul__)) (some (.builtin "int.__mul__")) (some (.builtin "int.__rmul__"))
  rf_add : RefOf K C_Ratio .Add f_Ratio___add__ f_Ratio___radd__ (some (.builtin "int.__add__")) (some (.builtin "int.__radd__"))
  rf_sub : RefOf K C_Ratio .Sub f_Ratio___sub__ f_Ratio___rsub__ (some (.builtin "int.__sub__")) (some (.builtin "int.__rsub__"))
  rf_mul : RefOf K C_Ratio .Mult f_Ratio___mul__ f_Ratio___rmul__ (some (.builtin "int.__mul__")) (some (.builtin "int.__rmul__"))
  ni_add : NoI K C_Ratio .Add
  ni_sub : NoI K C_Ratio .Sub
  ni_mul : NoI K C_Ratio .Mult
  ng : PySem.W.findIn K (.ref C_Ratio) "__neg__" = some (some (.ref f_Ratio___neg__)) ∧ PySem.W.isFn K (.ref f_Ratio___neg__) = true
  ab : PySem.W.findIn K (.ref C_Ratio) "__abs__" = some (some (.ref f_Ratio___abs__)) ∧ PySem.W.isFn K (.ref f_Ratio___abs__) = true
  lt : PySem.W.findIn K (.ref C_Ratio) (cmpInfo .Lt).2.1 = some (some (.ref f_Ratio___lt__)) ∧ PySem.W.isFn K (.ref f_Ratio___lt__) = true
  n1 : PySem.W.notFirst K C_Ratio (.type "int") = true
  n2 : PySem.W.notFirst K C_Ratio (.ref C_Ratio) = true
theorem bd_is_int {K : PySem.W.Frag} {f : Addr} {fd : FuncData} (F : Fun K "is_int" "is_int" s_is_int f fd) : Binds K fd ["thing"] [] := F.binds fun _ _ _ _ _ _ us hl => match us, hl with | [_], _ => rfl
theorem bd_Ratio_of {K : PySem.W.Frag} {f : Addr} {fd : FuncData} (F : Fun K "of" "Ratio.of" s_Ratio_of f fd) : Binds K fd ["thing"] [] := F.binds fun _ _ _ _ _ _ us hl => match us, hl with | [_], _ => rfl
theorem bd_Ratio_is_endless {K : PySem.W.Frag} {f : Addr} {fd : FuncData} (F : Fun K "is_endless" "Ratio.is_endless" s_Ratio_is_endless f fd) : Binds K fd ["self"] [] := F.binds fun _ _ _ _ _ _ us hl => match us, hl with | [_], _ => rfl
theorem bd_Ratio___add__ {K : PySem.W.Frag} {f : Addr} {fd : FuncData} (F : Fun K "__add__" "Ratio.__add__" s_Ratio___add__ f fd) : Binds K fd ["self", "other"] [] := F.binds fun _ _ _ _ _ _ us hl => match us, hl with | [_, _], _ => rfl
theorem bd_Ratio___radd__ {K : PySem.W.Frag} {f : Addr} {fd : FuncData} (F : Fun K "__radd__" "Ratio.__radd__" s_Ratio___radd__ f fd) : Binds K fd ["self", "other"] [] := F.binds fun _ _ _ _ _ _ us hl => match us, hl with | [_, _], _ => rfl
theorem bd_Ratio___sub__ {K : PySem.W.Frag} {f : Addr} {fd : FuncData} (F : Fun K "__sub__" "Ratio.__sub__" s_Ratio___sub__ f fd) : Binds K fd ["self", "other"] [] := F.binds fun _ _ _ _ _ _ us hl => match us, hl with | [_, _], _ => rfl
theorem bd_Ratio___rsub__ {K : PySem.W.Frag} {f : Addr} {fd : FuncData} (F : Fun K "__rsub__" "Ratio.__rsub__" s_Ratio___rsub__ f fd) : Binds K fd ["self", "other"] [] := F.binds fun _ _ _ _ _ _ us hl => match us, hl with | [_, _], _ => rfl
theorem bd_Ratio___mul__ {K : PySem.W.Frag} {f : Addr} {fd : FuncData} (F : Fun K "__mul__" "Ratio.__mul__" s_Ratio___mul__ f fd) : Binds K fd ["self", "other"] [] := F.binds fun _ _ _ _ _ _ us hl => match us, hl with | [_, _], _ => rfl
theorem bd_Ratio___rmul__ {K : PySem.W.Frag} {f : Addr} {fd : FuncData} (F : Fun K "__rmul__" "Ratio.__rmul__" s_Ratio___rmul__ f fd) : Binds K fd ["self", "other"] [] := F.binds fun _ _ _ _ _ _ us hl => match us, hl with | [_, _], _ => rfl
theorem bd_Ratio___neg__ {K : PySem.W.Frag} {f : Addr} {fd : FuncData} (F : Fun K "__neg__" "Ratio.__neg__" s_Ratio___neg__ f fd) : Binds K fd ["self"] [] := F.binds fun _ _ _ _ _ _ us hl => match us, hl with | [_], _ => rfl
theorem bd_Ratio___abs__ {K : PySem.W.Frag} {f : Addr} {fd : FuncData} (F : Fun K "__abs__" "Ratio.__abs__" s_Ratio___abs__ f fd) : Binds K fd ["self"] [] := F.binds fun _ _ _ _ _ _ us hl => match us, hl with | [_], _ => rfl
theorem bd_Ratio___lt__ {K : PySem.W.Frag} {f : Addr} {fd : FuncData} (F : Fun K "__lt__" "Ratio.__lt__" s_Ratio___lt__ f fd) : Binds K fd ["self", "other"] [] := F.binds fun _ _ _ _ _ _ us hl => match us, hl with | [_, _], _ => rfl
theorem bd__law_pen {K : PySem.W.Frag} {f : Addr} {fd : FuncData} (F : Fun K "_law_pen" "_law_pen" s__law_pen f fd) : Binds K fd ["_law_script"] [] := F.binds fun _ _ _ _ _ _ us hl => match us, hl with | [_], _ => rfl
theorem bd__law_draw {K : PySem.W.Frag} {f : Addr} {fd : FuncData} (F : Fun K "_law_draw" "_law_draw" s__law_draw f fd) : Binds K fd ["_law_pen_here", "_law_many"] [] := F.binds fun _ _ _ _ _ _ us hl => match us, hl with | [_, _], _ => rfl
theorem bd__law_pick {K : PySem.W.Frag} {f : Addr} {fd : FuncData} (F : Fun K "_law_pick" "_law_pick" s__law_pick f fd) : Binds K fd ["_law_pen_here", "_law_some"] [] := F.binds fun _ _ _ _ _ _ us hl => match us, hl with | [_, _], _ => rfl
theorem bd__law_low {K : PySem.W.Frag} {f : Addr} {fd : FuncData} (F : Fun K "_law_low" "_law_low" s__law_low f fd) : Binds K fd ["_law_upper", "_law_lower"] [] := F.binds fun _ _ _ _ _ _ us hl => match us, hl with | [_, _], _ => rfl
theorem bd__law_is {K : PySem.W.Frag} {f : Addr} {fd : FuncData} (F : Fun K "_law_is" "_law_is" s__law_is f fd) : Binds K fd ["_law_found", "_law_pair"] [] := F.binds fun _ _ _ _ _ _ us hl => match us, hl with | [_, _], _ => rfl
theorem bd__law_made {K : PySem.W.Frag} {f : Addr} {fd : FuncData} (F : Fun K "_law_made" "_law_made" s__law_made f fd) : Binds K fd ["_law_pair"] [] := F.binds fun _ _ _ _ _ _ us hl => match us, hl with | [_], _ => rfl
theorem bd__law_fraction {K : PySem.W.Frag} {f : Addr} {fd : FuncData} (F : Fun K "_law_fraction" "_law_fraction" s__law_fraction f fd) : Binds K fd ["_law_pen_here"] [] := F.binds fun _ _ _ _ _ _ us hl => match us, hl with | [_], _ => rfl
theorem bd__law_results {K : PySem.W.Frag} {f : Addr} {fd : FuncData} (F : Fun K "_law_results" "_law_results" s__law_results f fd) : Binds K fd ["_law_one", "_law_other"] [] := F.binds fun _ _ _ _ _ _ us hl => match us, hl with | [_, _], _ => rfl
theorem bd__law_are {K : PySem.W.Frag} {f : Addr} {fd : FuncData} (F : Fun K "_law_are" "_law_are" s__law_are f fd) : Binds K fd ["_law_found", "_law_due"] [] := F.binds fun _ _ _ _ _ _ us hl => match us, hl with | [_, _], _ => rfl
theorem bd__law_in_place {K : PySem.W.Frag} {f : Addr} {fd : FuncData} (F : Fun K "_law_in_place" "_law_in_place" s__law_in_place f fd) : Binds K fd ["_law_left", "_law_right"] [] := F.binds fun _ _ _ _ _ _ us hl => match us, hl with | [_, _], _ => rfl
theorem bd__law_pair_right {K : PySem.W.Frag} {f : Addr} {fd : FuncData} (F : Fun K "_law_pair_right" "_law_pair_right" s__law_pair_right f fd) : Binds K fd ["_law_one", "_law_other"] [] := F.binds fun _ _ _ _ _ _ us hl => match us, hl with | [_, _], _ => rfl
theorem bd__law_alone_right {K : PySem.W.Frag} {f : Addr} {fd : FuncData} (F : Fun K "_law_alone_right" "_law_alone_right" s__law_alone_right f fd) : Binds K fd ["_law_one"] [] := F.binds fun _ _ _ _ _ _ us hl => match us, hl with | [_], _ => rfl
theorem bd_law {K : PySem.W.Frag} {f : Addr} {fd : FuncData} (F : Fun K "law" "law" s_law f fd) : Binds K fd ["_law_script"] [] := F.binds fun _ _ _ _ _ _ us hl => match us, hl with | [_], _ => rfl
section
variable {P : Program} {w : World} {K : PySem.W.Frag} {mg : Str → Option Value} {base : Heap}
theorem ok_is_int (T : TX K mg) : FnOk P w K mg base CX0 1 T.f_is_int T.d_is_int ["thing"] (spIsInt) := by
  refine T.F_is_int.ok sc_is_int (fun vs H Q E h => ?_) (fun cdv A out s H vs Q E hr h => ?_)
  · obtain ⟨i, rfl, k⟩ := h
    rfl
  · obtain ⟨i, rfl, k⟩ := h
    refine ⟨_, (pss_one (ps_ret (pe_and (pe_callB call_isi (by rfl) T.b_isinstance (by decide +kernel) (pa_cons (pv 0) (pa_cons (pe_bltn (v := .ty "int") (by rfl) T.b_int (by decide +kernel) rfl) pa_nil))) (pe_one (pe_not (pe_callB call_isi (by rfl) T.b_isinstance (by decide +kernel) (pa_cons (pv 0) (pa_cons (pe_bltn (v := .ty "bool") (by rfl) T.b_bool (by decide +kernel) rfl) pa_nil)))))))), ?_⟩
    refine ⟨_, rfl, _, _, _, _, true, rfl, .ty "int", .base (.int i), kit_ty (by decide +kernel), _, rfl, ?_⟩
    refine iteT ?_
    exact ⟨_, rfl, _, _, _, _, false, rfl, .ty "bool", .base (.int i), kit_ty (by decide +kernel), _, rfl, k⟩
theorem r_is_int (T : TX K mg) : FnR P w K mg base CX0 1 T.f_is_int (spIsInt) := rawAll (ok_is_int T) (bd_is_int T.F_is_int)
theorem ok_Ratio___init__ (T : TX K mg) : FnOk P w K mg base CX0 2 T.f_Ratio___init__ T.d_Ratio___init__ ["self", "top", "bottom"] (spInit T.C_Ratio) := by
  refine T.F_Ratio___init__.ok sc_Ratio___init__ (fun vs H Q E h => ?_) (fun cdv A out s H vs Q E hr h => ?_)
  · obtain ⟨x, dx, t, b, rfl, e, b0, st, sb, k⟩ := h
    rfl
  · obtain ⟨x, dx, t, b, rfl, e, b0, st, sb, k⟩ := h
    refine ⟨_, (pss_cons (ps_if (pt_not (pt_val (pe_callR (r_is_int T) (hr.mono (by decide)) (by rfl) T.m_is_int T.F_is_int.kp pass0 (pa_cons (pv 1) pa_nil)))) (pss_one ps_never) pss_nil)
 (pss_cons (ps_if (PW.pt (pw_or (pt_not (pt_val (pe_callR (r_is_int T) (hr.mono (by decide)) (by rfl) T.m_is_int T.F_is_int.kp pass0 (pa_cons (pv 2) pa_nil)))) (pw_or1 (pt_cmpR op_lt (pv 2) pe_int (nomark _))))) (pss_one ps_never) pss_nil)
 (pss_cons (ps_set (i := 3) sc_Ratio___init__.nd rfl (Or.inl rfl) (pe_callBfun cr_gcd (by rfl) T.m_gcd (pa_cons (pv 1) (pa_cons (pv 2) pa_nil))))
 (pss_cons (ps_fld (pv 0) (pe_op op_fdivW (pv 1) (pv 3)) rfl)
 (pss_one (ps_fld (pv 0) (pe_op op_fdivW (pv 2) (pv 3)) rfl)))))), ?_⟩
    refine ⟨_, rfl, t, rfl, _, rfl, ?_⟩
    refine iteF ?_
    refine ⟨_, rfl, b, rfl, _, rfl, ?_⟩
    refine iteF ?_
    refine ⟨_, rfl, _, _, rfl, rfl, _, rfl, ?_⟩
    refine no_if (dec_no (by omega)) ?_
    refine ⟨_, rfl, _, rfl, t, b, rfl, ?_⟩
    have g0 := gd_pos (t := t) b0
    have g1 : CDivW t (gd t b) := wide_div g0 (Nat.lt_of_le_of_lt (by have := gd_le (t := t) b0; omega) sb) (by decide) (by decide)
    have g2 : CDivW b (gd t b) := g1
    refine ⟨_, rfl, _, rfl, _, _, rfl, rfl, g1, _, rfl, x, T.C_Ratio, dx, _, rfl, e, T.rc.cls, T.rc.nT, (by show 0 < 1000; decide), ?_⟩
    refine ⟨_, rfl, _, rfl, _, _, rfl, rfl, g2, _, rfl, x, T.C_Ratio, dx, _, rfl, upd_same, T.rc.cls, T.rc.nB, (by show 1 < 1000; decide), ?_⟩
    show Q .non (upd (upd H x (.ins T.C_Ratio dx [(("top" : Str), V.int (lo t b))])) x (.ins T.C_Ratio dx (putF "bottom" (.int (lb t b)) [(("top" : Str), V.int (lo t b))])))
    rw [put_bottom]
    exact k
theorem ok_Ratio_of (T : TX K mg) : FnOk P w K mg base CX0 4 T.f_Ratio_of T.d_Ratio_of ["thing"] (spOf T.C_Ratio) := by
  refine T.F_Ratio_of.ok sc_Ratio_of (fun vs H Q E h => ?_) (fun cdv A out s H vs Q E hr h => ?_)
  · obtain ⟨v, t, b, rfl, hn, st, k⟩ := h
    rfl
  · obtain ⟨v, t, b, rfl, hn, st, k⟩ := h
    refine ⟨_, (pss_cons (ps_if (pt_val (pe_callB call_isi (by rfl) T.b_isinstance (by decide +kernel) (pa_cons (pv 0) (pa_cons (pe_glob (v := .ref T.C_Ratio) (by rfl) T.m_Ratio rfl) pa_nil)))) (pss_one (ps_ret (pv 0))) pss_nil)
 (pss_one (ps_ret (pe_make (T.mk_Ratio) (ok_Ratio___init__ T) (hr.mono (by decide)) (by rfl) T.m_Ratio T.bd1.choose_spec.2 T.bd1.choose_spec.1 pass0 (pa_cons (pv 0) pa_nil))))), ?_⟩
    rcases hn with ⟨a, rfl, dx, e⟩ | ⟨rfl, rfl⟩
    · refine ⟨_, rfl, _, _, _, _, true, rfl, .own _, T.rc.ty e, kit_self, _, rfl, ?_⟩
      refine iteT ?_
      exact ⟨_, rfl, k a H (Same.refl H) ⟨dx, e⟩⟩
    · refine ⟨_, rfl, _, _, _, _, false, rfl, .own _, .base (.int t), T.rc.k0, _, rfl, ?_⟩
      refine iteF ?_
      refine ⟨_, rfl, mkR (by decide) st (sm_1 (by decide)) fun a H' s1 r => ?_⟩
      rw [low_lo (low_one t), low_lb (low_one t)] at r
      exact k a H' s1 r
theorem r_Ratio_of (T : TX K mg) : FnR P w K mg base CX0 4 T.f_Ratio_of (spOf T.C_Ratio) := rawAll (ok_Ratio_of T) (bd_Ratio_of T.F_Ratio_of)
theorem ok_Ratio_is_endless (T : TX K mg) : FnOk P w K mg base CX0 1 T.f_Ratio_is_endless T.d_Ratio_is_endless ["self"] (spEndless T.C_Ratio) := by
  refine T.F_Ratio_is_endless.ok sc_Ratio_is_endless (fun vs H Q E h => ?_) (fun cdv A out s H vs Q E hr h => ?_)
  · obtain ⟨x, t, b, rfl, ⟨dx, e⟩, k⟩ := h
    rfl
  · obtain ⟨x, t, b, rfl, ⟨dx, e⟩, k⟩ := h
    refine ⟨_, (pss_one (ps_ret (pe_cmpR op_eq (pe_fld (pv 0) rfl) pe_int (nomark _)))), ?_⟩
    refine ⟨_, rfl, _, _, _, _, _, rfl, e, T.rc.cls, T.rc.nB, rfs_bottom _ _, rfl, ?_⟩
    rw [dec_int]
    exact k
theorem r_Ratio_is_endless (T : TX K mg) : FnR P w K mg base CX0 1 T.f_Ratio_is_endless (spEndless T.C_Ratio) := rawAll (ok_Ratio_is_endless T) (bd_Ratio_is_endless T.F_Ratio_is_endless)
theorem ok_Ratio___add__ (T : TX K mg) : FnOk P w K mg base CX0 5 T.f_Ratio___add__ T.d_Ratio___add__ ["self", "other"] (spBin T.C_Ratio fAdd gAll) := by
  refine T.F_Ratio___add__.ok sc_Ratio___add__ (fun vs H Q E h => ?_) (fun cdv A out s H vs Q E hr h => ?_)
  · obtain ⟨x, y, t, b, u, d, rfl, ⟨dx, e⟩, hn, b0, d0, st, sb, su, sd, k⟩ := h
    rfl
  · obtain ⟨x, y, t, b, u, d, rfl, ⟨dx, e⟩, hn, b0, d0, st, sb, su, sd, k⟩ := h
    refine ⟨_, (pss_cons (ps_set (i := 1) sc_Ratio___add__.nd rfl (Or.inl rfl) (pe_smeth (pe_glob (v := .ref T.C_Ratio) (by rfl) T.m_Ratio rfl) T.st_of (r_Ratio_of T) (hr.mono (by decide)) pass0 (pa_cons (pv 1) pa_nil)))
 (pss_cons (ps_if (PW.pt (pw_or (pt_val (pe_prop (pv 0) T.rc.cls T.pr_is_endless (ok_Ratio_is_endless T) (hr.mono (by decide)) (bd_Ratio_is_endless T.F_Ratio_is_endless) .nil pass0 rfl)) (pw_or1 (pt_val (pe_prop (pv 1) T.rc.cls T.pr_is_endless (ok_Ratio_is_endless T) (hr.mono (by decide)) (bd_Ratio_is_endless T.F_Ratio_is_endless) .nil pass0 rfl))))) (pss_cons ps_never
 (pss_one ps_never)) pss_nil)
 (pss_one (ps_ret (pe_make (T.mk_Ratio) (ok_Ratio___init__ T) (hr.mono (by decide)) (by rfl) T.m_Ratio T.bd2.choose_spec.2 T.bd2.choose_spec.1 pass0 (pa_cons (pe_op op_add (pe_op op_mulW (pe_fld (pv 0) rfl) (pe_fld (pv 1) rfl)) (pe_op op_mulW (pe_fld (pv 1) rfl) (pe_fld (pv 0) rfl))) (pa_cons (pe_op op_mulW (pe_fld (pv 0) rfl) (pe_fld (pv 1) rfl)) pa_nil))))))), ?_⟩
    refine ⟨rfl, _, rfl, _, _, _, rfl, hn, sm_mono su (by decide), fun a H1 s1 r1 => ?_⟩
    obtain ⟨dy, e2⟩ := r1
    have e1 := s1 _ _ e
    refine ⟨_, rfl, x, dx, _, rfl, e1, x, t, b, rfl, ⟨dx, e1⟩, _, rfl, ?_⟩
    refine no_if (dec_no (by omega)) ?_
    refine ⟨_, rfl, a, dy, _, rfl, e2, a, u, d, rfl, ⟨dy, e2⟩, _, rfl, ?_⟩
    refine no_if (dec_no (by omega)) ?_
    refine ⟨_, rfl, _, _, _, _, _, rfl, e1, T.rc.cls, T.rc.nT, rfs_top _ _, _, rfl, _, _, _, _, _, rfl, e2, T.rc.cls, T.rc.nB, rfs_bottom _ _, _, _, rfl, rfl, (sm_cmul st sd (by decide) (by decide) (by decide)), _, rfl, _, _, _, _, _, rfl, e2, T.rc.cls, T.rc.nT, rfs_top _ _, _, rfl, _, _, _, _, _, rfl, e1, T.rc.cls, T.rc.nB, rfs_bottom _ _, _, _, rfl, rfl, (sm_cmul su sb (by decide) (by decide) (by decide)), _, _, rfl, rfl, _, rfl, _, _, _, _, _, rfl, e1, T.rc.cls, T.rc.nB, rfs_bottom _ _, _, rfl, _, _, _, _, _, rfl, e2, T.rc.cls, T.rc.nB, rfs_bottom _ _, _, _, rfl, rfl, (sm_cmul sb sd (by decide) (by decide) (by decide)), ?_⟩
    exact mkR (Int.mul_pos b0 d0) (sm_mono (sm_add (sm_mul st sd) (sm_mul su sb)) (by decide)) (sm_mono (sm_mul sb sd) (by decide)) fun z H2 s2 r => k z H2 (s1.trans s2) r
theorem r_Ratio___add__ (T : TX K mg) : FnR P w K mg base CX0 5 T.f_Ratio___add__ (spBin T.C_Ratio fAdd gAll) := rawAll (ok_Ratio___add__ T) (bd_Ratio___add__ T.F_Ratio___add__)
theorem ok_Ratio___sub__ (T : TX K mg) : FnOk P w K mg base CX0 5 T.f_Ratio___sub__ T.d_Ratio___sub__ ["self", "other"] (spBin T.C_Ratio fSub gAll) := by
  refine T.F_Ratio___sub__.ok sc_Ratio___sub__ (fun vs H Q E h => ?_) (fun cdv A out s H vs Q E hr h => ?_)
  · obtain ⟨x, y, t, b, u, d, rfl, ⟨dx, e⟩, hn, b0, d0, st, sb, su, sd, k⟩ := h
    rfl
  · obtain ⟨x, y, t, b, u, d, rfl, ⟨dx, e⟩, hn, b0, d0, st, sb, su, sd, k⟩ := h
    refine ⟨_, (pss_cons (ps_set (i := 1) sc_Ratio___sub__.nd rfl (Or.inl rfl) (pe_smeth (pe_glob (v := .ref T.C_Ratio) (by rfl) T.m_Ratio rfl) T.st_of (r_Ratio_of T) (hr.mono (by decide)) pass0 (pa_cons (pv 1) pa_nil)))
 (pss_cons (ps_if (PW.pt (pw_or (pt_val (pe_prop (pv 0) T.rc.cls T.pr_is_endless (ok_Ratio_is_endless T) (hr.mono (by decide)) (bd_Ratio_is_endless T.F_Ratio_is_endless) .nil pass0 rfl)) (pw_or1 (pt_val (pe_prop (pv 1) T.rc.cls T.pr_is_endless (ok_Ratio_is_endless T) (hr.mono (by decide)) (bd_Ratio_is_endless T.F_Ratio_is_endless) .nil pass0 rfl))))) (pss_one ps_never) pss_nil)
 (pss_one (ps_ret (pe_make (T.mk_Ratio) (ok_Ratio___init__ T) (hr.mono (by decide)) (by rfl) T.m_Ratio T.bd2.choose_spec.2 T.bd2.choose_spec.1 pass0 (pa_cons (pe_op op_sub (pe_op op_mulW (pe_fld (pv 0) rfl) (pe_fld (pv 1) rfl)) (pe_op op_mulW (pe_fld (pv 1) rfl) (pe_fld (pv 0) rfl))) (pa_cons (pe_op op_mulW (pe_fld (pv 0) rfl) (pe_fld (pv 1) rfl)) pa_nil))))))), ?_⟩
    refine ⟨rfl, _, rfl, _, _, _, rfl, hn, sm_mono su (by decide), fun a H1 s1 r1 => ?_⟩
    obtain ⟨dy, e2⟩ := r1
    have e1 := s1 _ _ e
    refine ⟨_, rfl, x, dx, _, rfl, e1, x, t, b, rfl, ⟨dx, e1⟩, _, rfl, ?_⟩
    refine no_if (dec_no (by omega)) ?_
    refine ⟨_, rfl, a, dy, _, rfl, e2, a, u, d, rfl, ⟨dy, e2⟩, _, rfl, ?_⟩
    refine no_if (dec_no (by omega)) ?_
    refine ⟨_, rfl, _, _, _, _, _, rfl, e1, T.rc.cls, T.rc.nT, rfs_top _ _, _, rfl, _, _, _, _, _, rfl, e2, T.rc.cls, T.rc.nB, rfs_bottom _ _, _, _, rfl, rfl, (sm_cmul st sd (by decide) (by decide) (by decide)), _, rfl, _, _, _, _, _, rfl, e2, T.rc.cls, T.rc.nT, rfs_top _ _, _, rfl, _, _, _, _, _, rfl, e1, T.rc.cls, T.rc.nB, rfs_bottom _ _, _, _, rfl, rfl, (sm_cmul su sb (by decide) (by decide) (by decide)), _, _, rfl, rfl, _, rfl, _, _, _, _, _, rfl, e1, T.rc.cls, T.rc.nB, rfs_bottom _ _, _, rfl, _, _, _, _, _, rfl, e2, T.rc.cls, T.rc.nB, rfs_bottom _ _, _, _, rfl, rfl, (sm_cmul sb sd (by decide) (by decide) (by decide)), ?_⟩
    exact mkR (Int.mul_pos b0 d0) (sm_mono (sm_sub (sm_mul st sd) (sm_mul su sb)) (by decide)) (sm_mono (sm_mul sb sd) (by decide)) fun z H2 s2 r => k z H2 (s1.trans s2) r
theorem r_Ratio___sub__ (T : TX K mg) : FnR P w K mg base CX0 5 T.f_Ratio___sub__ (spBin T.C_Ratio fSub gAll) := rawAll (ok_Ratio___sub__ T) (bd_Ratio___sub__ T.F_Ratio___sub__)
theorem ok_Ratio___mul__ (T : TX K mg) : FnOk P w K mg base CX0 5 T.f_Ratio___mul__ T.d_Ratio___mul__ ["self", "other"] (spBin T.C_Ratio fMul gAll) := by
  refine T.F_Ratio___mul__.ok sc_Ratio___mul__ (fun vs H Q E h => ?_) (fun cdv A out s H vs Q E hr h => ?_)
  · obtain ⟨x, y, t, b, u, d, rfl, ⟨dx, e⟩, hn, b0, d0, st, sb, su, sd, k⟩ := h
    rfl
  · obtain ⟨x, y, t, b, u, d, rfl, ⟨dx, e⟩, hn, b0, d0, st, sb, su, sd, k⟩ := h
    refine ⟨_, (pss_cons (ps_set (i := 1) sc_Ratio___mul__.nd rfl (Or.inl rfl) (pe_smeth (pe_glob (v := .ref T.C_Ratio) (by rfl) T.m_Ratio rfl) T.st_of (r_Ratio_of T) (hr.mono (by decide)) pass0 (pa_cons (pv 1) pa_nil)))
 (pss_cons (ps_if (PW.pt (pw_or (pt_val (pe_prop (pv 0) T.rc.cls T.pr_is_endless (ok_Ratio_is_endless T) (hr.mono (by decide)) (bd_Ratio_is_endless T.F_Ratio_is_endless) .nil pass0 rfl)) (pw_or1 (pt_val (pe_prop (pv 1) T.rc.cls T.pr_is_endless (ok_Ratio_is_endless T) (hr.mono (by decide)) (bd_Ratio_is_endless T.F_Ratio_is_endless) .nil pass0 rfl))))) (pss_cons ps_never
 (pss_one ps_never)) pss_nil)
 (pss_one (ps_ret (pe_make (T.mk_Ratio) (ok_Ratio___init__ T) (hr.mono (by decide)) (by rfl) T.m_Ratio T.bd2.choose_spec.2 T.bd2.choose_spec.1 pass0 (pa_cons (pe_op op_mulW (pe_fld (pv 0) rfl) (pe_fld (pv 1) rfl)) (pa_cons (pe_op op_mulW (pe_fld (pv 0) rfl) (pe_fld (pv 1) rfl)) pa_nil))))))), ?_⟩
    refine ⟨rfl, _, rfl, _, _, _, rfl, hn, sm_mono su (by decide), fun a H1 s1 r1 => ?_⟩
    obtain ⟨dy, e2⟩ := r1
    have e1 := s1 _ _ e
    refine ⟨_, rfl, x, dx, _, rfl, e1, x, t, b, rfl, ⟨dx, e1⟩, _, rfl, ?_⟩
    refine no_if (dec_no (by omega)) ?_
    refine ⟨_, rfl, a, dy, _, rfl, e2, a, u, d, rfl, ⟨dy, e2⟩, _, rfl, ?_⟩
    refine no_if (dec_no (by omega)) ?_
    refine ⟨_, rfl, _, _, _, _, _, rfl, e1, T.rc.cls, T.rc.nT, rfs_top _ _, _, rfl, _, _, _, _, _, rfl, e2, T.rc.cls, T.rc.nT, rfs_top _ _, _, _, rfl, rfl, (sm_cmul st su (by decide) (by decide) (by decide)), _, rfl, _, _, _, _, _, rfl, e1, T.rc.cls, T.rc.nB, rfs_bottom _ _, _, rfl, _, _, _, _, _, rfl, e2, T.rc.cls, T.rc.nB, rfs_bottom _ _, _, _, rfl, rfl, (sm_cmul sb sd (by decide) (by decide) (by decide)), ?_⟩
    exact mkR (Int.mul_pos b0 d0) (sm_mono (sm_mul st su) (by decide)) (sm_mono (sm_mul sb sd) (by decide)) fun z H2 s2 r => k z H2 (s1.trans s2) r
theorem r_Ratio___mul__ (T : TX K mg) : FnR P w K mg base CX0 5 T.f_Ratio___mul__ (spBin T.C_Ratio fMul gAll) := rawAll (ok_Ratio___mul__ T) (bd_Ratio___mul__ T.F_Ratio___mul__)
theorem ok_Ratio___radd__ (T : TX K mg) : FnOk P w K mg base CX0 6 T.f_Ratio___radd__ T.d_Ratio___radd__ ["self", "other"] (spBin T.C_Ratio fAdd gAll) := by
  refine T.F_Ratio___radd__.ok sc_Ratio___radd__ (fun vs H Q E h => ?_) (fun cdv A out s H vs Q E hr h => ?_)
  · obtain ⟨x, y, t, b, u, d, rfl, ⟨dx, e⟩, hn, b0, d0, st, sb, su, sd, k⟩ := h
    rfl
  · obtain ⟨x, y, t, b, u, d, rfl, ⟨dx, e⟩, hn, b0, d0, st, sb, su, sd, k⟩ := h
    refine ⟨_, (pss_one (ps_ret (pe_op (op_ownL T.op_add (r_Ratio___add__ T) (hr.mono (by decide)) pass0) (pv 0) (pv 1)))), ?_⟩
    refine ⟨_, rfl, _, rfl, ⟨x, dx, _, rfl, e⟩, hn.intOr, ?_⟩
    exact ⟨x, y, t, b, u, d, rfl, ⟨dx, e⟩, hn, b0, d0, st, sb, su, sd, k⟩
theorem r_Ratio___radd__ (T : TX K mg) : FnR P w K mg base CX0 6 T.f_Ratio___radd__ (spBin T.C_Ratio fAdd gAll) := rawAll (ok_Ratio___radd__ T) (bd_Ratio___radd__ T.F_Ratio___radd__)
theorem ok_Ratio___rmul__ (T : TX K mg) : FnOk P w K mg base CX0 6 T.f_Ratio___rmul__ T.d_Ratio___rmul__ ["self", "other"] (spBin T.C_Ratio fMul gAll) := by
  refine T.F_Ratio___rmul__.ok sc_Ratio___rmul__ (fun vs H Q E h => ?_) (fun cdv A out s H vs Q E hr h => ?_)
  · obtain ⟨x, y, t, b, u, d, rfl, ⟨dx, e⟩, hn, b0, d0, st, sb, su, sd, k⟩ := h
    rfl
  · obtain ⟨x, y, t, b, u, d, rfl, ⟨dx, e⟩, hn, b0, d0, st, sb, su, sd, k⟩ := h
    refine ⟨_, (pss_one (ps_ret (pe_op (op_ownL T.op_mul (r_Ratio___mul__ T) (hr.mono (by decide)) pass0) (pv 0) (pv 1)))), ?_⟩
    refine ⟨_, rfl, _, rfl, ⟨x, dx, _, rfl, e⟩, hn.intOr, ?_⟩
    exact ⟨x, y, t, b, u, d, rfl, ⟨dx, e⟩, hn, b0, d0, st, sb, su, sd, k⟩
theorem r_Ratio___rmul__ (T : TX K mg) : FnR P w K mg base CX0 6 T.f_Ratio___rmul__ (spBin T.C_Ratio fMul gAll) := rawAll (ok_Ratio___rmul__ T) (bd_Ratio___rmul__ T.F_Ratio___rmul__)
theorem ok_Ratio___rsub__ (T : TX K mg) : FnOk P w K mg base CX0 6 T.f_Ratio___rsub__ T.d_Ratio___rsub__ ["self", "other"] (spBin T.C_Ratio fRsub gRev) := by
  refine T.F_Ratio___rsub__.ok sc_Ratio___rsub__ (fun vs H Q E h => ?_) (fun cdv A out s H vs Q E hr h => ?_)
  · obtain ⟨x, y, t, b, u, d, rfl, ⟨dx, e⟩, hn, b0, d0, st, sb, su, sd, k⟩ := h
    rfl
  · obtain ⟨x, y, t, b, u, d, rfl, ⟨dx, e⟩, hn, b0, d0, st, sb, su, sd, k⟩ := h
    refine ⟨_, (pss_one (ps_ret (pe_op (op_ownL T.op_sub (r_Ratio___sub__ T) (hr.mono (by decide)) pass0) (pe_smeth (pe_glob (v := .ref T.C_Ratio) (by rfl) T.m_Ratio rfl) T.st_of (r_Ratio_of T) (hr.mono (by decide)) pass0 (pa_cons (pv 1) pa_nil)) (pv 0)))), ?_⟩
    refine ⟨rfl, _, rfl, _, _, _, rfl, hn, sm_mono su (by decide), fun a H1 s1 r1 => ?_⟩
    obtain ⟨dy, e2⟩ := r1
    have e1 := s1 _ _ e
    refine ⟨_, rfl, ⟨a, dy, _, rfl, e2⟩, .inr ⟨x, dx, _, rfl, e1⟩, ?_⟩
    exact ⟨a, _, u, d, t, b, rfl, ⟨dy, e2⟩, .inl ⟨x, rfl, dx, e1⟩, d0, b0, su, sd, st, sb, fun z H2 s2 r => k z H2 (s1.trans s2) r⟩
theorem r_Ratio___rsub__ (T : TX K mg) : FnR P w K mg base CX0 6 T.f_Ratio___rsub__ (spBin T.C_Ratio fRsub gRev) := rawAll (ok_Ratio___rsub__ T) (bd_Ratio___rsub__ T.F_Ratio___rsub__)
theorem ok_Ratio___neg__ (T : TX K mg) : FnOk P w K mg base CX0 4 T.f_Ratio___neg__ T.d_Ratio___neg__ ["self"] (spNeg T.C_Ratio) := by
  refine T.F_Ratio___neg__.ok sc_Ratio___neg__ (fun vs H Q E h => ?_) (fun cdv A out s H vs Q E hr h => ?_)
  · obtain ⟨x, t, b, rfl, ⟨dx, e⟩, b0, st, sb, k⟩ := h
    rfl
  · obtain ⟨x, t, b, rfl, ⟨dx, e⟩, b0, st, sb, k⟩ := h
    refine ⟨_, (pss_cons (ps_if (pt_val (pe_prop (pv 0) T.rc.cls T.pr_is_endless (ok_Ratio_is_endless T) (hr.mono (by decide)) (bd_Ratio_is_endless T.F_Ratio_is_endless) .nil pass0 rfl)) (pss_one ps_never) pss_nil)
 (pss_one (ps_ret (pe_make (T.mk_Ratio) (ok_Ratio___init__ T) (hr.mono (by decide)) (by rfl) T.m_Ratio T.bd2.choose_spec.2 T.bd2.choose_spec.1 pass0 (pa_cons (pe_un un_neg (pe_fld (pv 0) rfl)) (pa_cons (pe_fld (pv 0) rfl) pa_nil)))))), ?_⟩
    refine ⟨_, rfl, x, dx, _, rfl, e, x, t, b, rfl, ⟨dx, e⟩, _, rfl, ?_⟩
    refine no_if (dec_no (by omega)) ?_
    refine ⟨_, rfl, _, _, _, _, _, rfl, e, T.rc.cls, T.rc.nT, rfs_top _ _, _, rfl, _, rfl, _, _, _, _, _, rfl, e, T.rc.cls, T.rc.nB, rfs_bottom _ _, ?_⟩
    exact mkR b0 (sm_mono (sm_neg st) (by decide)) (sm_mono sb (by decide)) k
theorem r_Ratio___neg__ (T : TX K mg) : FnR P w K mg base CX0 4 T.f_Ratio___neg__ (spNeg T.C_Ratio) := rawAll (ok_Ratio___neg__ T) (bd_Ratio___neg__ T.F_Ratio___neg__)
theorem ok_Ratio___lt__ (T : TX K mg) : FnOk P w K mg base CX0 5 T.f_Ratio___lt__ T.d_Ratio___lt__ ["self", "other"] (spLt T.C_Ratio) := by
  refine T.F_Ratio___lt__.ok sc_Ratio___lt__ (fun vs H Q E h => ?_) (fun cdv A out s H vs Q E hr h => ?_)
  · obtain ⟨x, y, t, b, u, d, rfl, ⟨dx, e⟩, hn, st, sb, su, sd, k⟩ := h
    rfl
  · obtain ⟨x, y, t, b, u, d, rfl, ⟨dx, e⟩, hn, st, sb, su, sd, k⟩ := h
    refine ⟨_, (pss_cons (ps_set (i := 1) sc_Ratio___lt__.nd rfl (Or.inl rfl) (pe_smeth (pe_glob (v := .ref T.C_Ratio) (by rfl) T.m_Ratio rfl) T.st_of (r_Ratio_of T) (hr.mono (by decide)) pass0 (pa_cons (pv 1) pa_nil)))
 (pss_one (ps_ret (pe_cmpR op_lt (pe_op op_mulW (pe_fld (pv 0) rfl) (pe_fld (pv 1) rfl)) (pe_op op_mulW (pe_fld (pv 1) rfl) (pe_fld (pv 0) rfl)) (nomark _))))), ?_⟩
    refine ⟨rfl, _, rfl, _, _, _, rfl, hn, sm_mono su (by decide), fun a H1 s1 r1 => ?_⟩
    obtain ⟨dy, e2⟩ := r1
    have e1 := s1 _ _ e
    refine ⟨_, rfl, _, _, _, _, _, rfl, e1, T.rc.cls, T.rc.nT, rfs_top _ _, _, rfl, _, _, _, _, _, rfl, e2, T.rc.cls, T.rc.nB, rfs_bottom _ _, _, _, rfl, rfl, (sm_cmul st sd (by decide) (by decide) (by decide)), _, rfl, _, _, _, _, _, rfl, e2, T.rc.cls, T.rc.nT, rfs_top _ _, _, rfl, _, _, _, _, _, rfl, e1, T.rc.cls, T.rc.nB, rfs_bottom _ _, _, _, rfl, rfl, (sm_cmul su sb (by decide) (by decide) (by decide)), _, _, rfl, rfl, ?_⟩
    exact k H1 s1
theorem r_Ratio___lt__ (T : TX K mg) : FnR P w K mg base CX0 5 T.f_Ratio___lt__ (spLt T.C_Ratio) := rawAll (ok_Ratio___lt__ T) (bd_Ratio___lt__ T.F_Ratio___lt__)
theorem ok_Ratio___abs__ (T : TX K mg) : FnOk P w K mg base CX0 6 T.f_Ratio___abs__ T.d_Ratio___abs__ ["self"] (spAbs T.C_Ratio) := by
  refine T.F_Ratio___abs__.ok sc_Ratio___abs__ (fun vs H Q E h => ?_) (fun cdv A out s H vs Q E hr h => ?_)
  · obtain ⟨x, t, b, rfl, ⟨dx, e⟩, hl, st, sb, k⟩ := h
    rfl
  · obtain ⟨x, t, b, rfl, ⟨dx, e⟩, hl, st, sb, k⟩ := h
    refine ⟨_, (pss_one (ps_ret (pe_ifExp (pt_cmpR (op_cmpL (fun _ _ => rfl) T.lt.1 T.lt.2 T.n1 T.n2 (r_Ratio___lt__ T) (hr.mono (by decide)) pass0) (pv 0) pe_int (nomark _)) (pe_un (un_negO T.ng.1 T.ng.2 (r_Ratio___neg__ T) (hr.mono (by decide)) pass0) (pv 0)) (pv 0)))), ?_⟩
    refine ⟨_, rfl, ⟨x, dx, _, rfl, e⟩, .inl ⟨0, rfl⟩, x, _, t, b, 0, 1, rfl, ⟨dx, e⟩, .inr ⟨rfl, rfl⟩, st, sb, sm_0, sm_1 (by decide), fun H1 s1 => ?_⟩
    refine ⟨_, rfl, ?_⟩
    have e1 := s1 _ _ e
    refine ite2 (fun z => ?_) (fun z => ?_)
    · have z1 : t < 0 := by have := of_decide_eq_true z; omega
      rw [if_pos z1] at k
      refine ⟨_, rfl, ⟨x, dx, _, rfl, e1⟩, x, t, b, rfl, ⟨dx, e1⟩, hl.1, st, sb, fun a H2 s2 r => ?_⟩
      rw [low_lo (low_neg hl), low_lb (low_neg hl)] at r
      exact k a H2 (s1.trans s2) r
    · have z1 : ¬ t < 0 := by intro y; exact z (decide_eq_true (by omega))
      rw [if_neg z1] at k
      exact ⟨_, rfl, k x H1 s1 ⟨dx, e1⟩⟩
theorem r_Ratio___abs__ (T : TX K mg) : FnR P w K mg base CX0 6 T.f_Ratio___abs__ (spAbs T.C_Ratio) := rawAll (ok_Ratio___abs__ T) (bd_Ratio___abs__ T.F_Ratio___abs__)
theorem g__law_pen (T : TX K mg) : FnG P w K mg base CX0 1 T.f__law_pen (spPen K) := by
  refine okG T.F__law_pen sc__law_pen (bd__law_pen T.F__law_pen) (fun vs H Q E h => ?_) (fun cdv A out s H vs Q E hr fr h => ?_)
  · obtain ⟨a, ns, rfl, hS, hl, k⟩ := h
    rfl
  · obtain ⟨a, ns, rfl, hS, hl, k⟩ := h
    refine ⟨_, (pss_one (ps_ret (pe_lst (pa_cons (pe_callTy call_list_of (by rfl) T.b_list (by decide +kernel) (pa_cons (pe_slice sl_list (pv 0) po_none (po_some pe_int)) pa_nil)) (pa_cons pe_int (pa_cons pe_int pa_nil)))))), ?_⟩
    refine ⟨_, rfl, _, rfl, a, _, rfl, hS, fun q1 n1 => ?_⟩
    refine ⟨_, _, rfl, .inl (SqL.of upd_same), fun q2 n2 => ?_⟩
    refine ⟨by show 3 ≤ sizeLine; decide, fun q3 n3 => ?_⟩
    have s1 : Same H (upd (upd (upd H q1 (.lst (cutV (ns.map V.int) none (some 63)))) q2 (.lst (cutV (ns.map V.int) none (some 63)))) q3 (.lst [.ref q2, .int 0, .int 0])) := same_new (same_new (Same.new n1) n2) n3
    refine k q3 q2 _ s1 ((same_new (Same.new n1) n2).free n3) ((Same.new n1).free n2) ⟨upd_same, ?_, by decide, by decide, hl⟩
    rw [upd_ne (ne_of_none upd_same n3), upd_same, cut63 hl]
theorem g__law_draw (T : TX K mg) : FnG P w K mg base CX0 1 T.f__law_draw (spDraw) := by
  refine okG T.F__law_draw sc__law_draw (bd__law_draw T.F__law_draw) (fun vs H Q E h => ?_) (fun cdv A out s H vs Q E hr fr h => ?_)
  · obtain ⟨p, c, ns, a, g, m, rfl, m0, m1, W, k⟩ := h
    rfl
  · obtain ⟨p, c, ns, a, g, m, rfl, m0, m1, W, k⟩ := h
    refine ⟨_, (pss_cons (ps_if (pt_cmpR op_gt (pe_ix ix_list (pv 0) pe_int (fun _ _ => rfl)) pe_int (nomark _)) (pss_cons (ps_set (i := 2) sc__law_draw.nd rfl (Or.inl rfl) (pe_op op_modL (pe_callTy call_int1 (by rfl) T.b_int (by decide +kernel) (pa_cons (pe_ix ix_list (pv 0) pe_int (fun _ _ => rfl)) pa_nil)) (pv 1)))
 (pss_cons (ps_asg (pe_op op_divL (pe_callTy call_int1 (by rfl) T.b_int (by decide +kernel) (pa_cons (pe_ix ix_list (pv 0) pe_int (fun _ _ => rfl)) pa_nil)) (pv 1)) (pg_sub (pv 0) pe_int set_list))
 (pss_one (ps_ret (pv 2))))) pss_nil)
 (pss_cons (ps_set (i := 3) sc__law_draw.nd rfl (Or.inl rfl) (pe_ix ix_list (pv 0) pe_int (fun _ _ => rfl)))
 (pss_cons (ps_asg (pe_op op_add (pv 3) pe_int) (pg_sub (pv 0) pe_int set_list))
 (pss_cons (ps_set (i := 4) sc__law_draw.nd rfl (Or.inl rfl) (pe_op op_add (pe_op op_mulL pe_int (pv 3)) pe_int))
 (pss_cons (ps_if (pt_cmpR (op_neD hr.units) (pe_ix ix_list (pv 0) pe_int (fun _ _ => rfl)) (pe_lst pa_nil) (nomark _)) (pss_one (ps_set (i := 4) sc__law_draw.nd rfl (Or.inl rfl) (pe_ix ix_list (pe_ix ix_list (pv 0) pe_int (fun _ _ => rfl)) (pe_op op_modL (pe_callTy call_int1 (by rfl) T.b_int (by decide +kernel) (pa_cons (pv 3) pa_nil)) (pe_callB call_len_seq (by rfl) T.b_len PySem.boot_len (pa_cons (pe_ix ix_list (pv 0) pe_int (fun _ _ => rfl)) pa_nil))) (fun _ _ => rfl)))) pss_nil)
 (pss_cons (ps_if (PW.pt (pw_and (pt_cmpR op_lt (pv 3) (pe_callB call_len_seq (by rfl) T.b_len PySem.boot_len (pa_cons (pe_ix ix_list (pv 0) pe_int (fun _ _ => rfl)) pa_nil)) (nomark _)) (pw_and1 (pt_cmpR op_ge (pe_callB call_abs (by rfl) T.b_abs (by decide +kernel) (pa_cons (pv 4) pa_nil)) (pe_op op_powL pe_int pe_int) (nomark _))))) (pss_cons (ps_set (i := 5) sc__law_draw.nd rfl (Or.inl rfl) (pe_op op_add (pe_op op_mulL pe_int (pe_op op_sub (pe_callB call_abs (by rfl) T.b_abs (by decide +kernel) (pa_cons (pv 4) pa_nil)) (pe_op op_powL pe_int pe_int))) (pe_callTy call_int1 (by rfl) T.b_int (by decide +kernel) (pa_cons (pe_cmpR op_lt (pv 4) pe_int (nomark _)) pa_nil))))
 (pss_cons (ps_asg (pe_op op_divL (pe_callTy call_int1 (by rfl) T.b_int (by decide +kernel) (pa_cons (pv 5) pa_nil)) (pv 1)) (pg_sub (pv 0) pe_int set_list))
 (pss_one (ps_ret (pe_op op_modL (pe_callTy call_int1 (by rfl) T.b_int (by decide +kernel) (pa_cons (pv 5) pa_nil)) (pv 1)))))) pss_nil)
 (pss_cons (ps_set (i := 6) sc__law_draw.nd rfl (Or.inl rfl) (pe_op op_modL (pe_callTy call_int1 (by rfl) T.b_int (by decide +kernel) (pa_cons (pe_op op_powL (pe_op op_add (pe_op op_add (pe_op op_modL (pe_callTy call_int1 (by rfl) T.b_int (by decide +kernel) (pa_cons (pv 4) pa_nil)) pe_int) (pe_op op_mulL pe_int (pv 3))) pe_int) pe_int) pa_nil)) pe_int))
 (pss_cons (ps_set (i := 6) sc__law_draw.nd rfl (Or.inl rfl) (pe_op op_modL (pe_callTy call_int1 (by rfl) T.b_int (by decide +kernel) (pa_cons (pe_op op_powL (pe_op op_add (pe_op op_add (pe_op op_mulL (pv 6) (pe_op op_add (pe_op op_mulL pe_int (pv 3)) pe_int)) (pe_op op_mulL (pe_op op_mulL pe_int (pv 3)) (pv 3))) pe_int) pe_int) pa_nil)) pe_int))
 (pss_one (ps_ret (pe_op op_modL (pe_callTy call_int1 (by rfl) T.b_int (by decide +kernel) (pa_cons (pe_op op_divL (pv 6) pe_int) pa_nil)) (pv 1)))))))))))), ?_⟩
    have WP := W.pn
    have WC := W.cs
    have WL := W.la
    have WB := W.lb
    have WN := W.ne
    refine ⟨_, rfl, _, _, _, _, rfl, rfl, (SqL.of (by walk_at "hp")), rfl, _, _, rfl, rfl, _, rfl, ?_⟩
    refine ite2 (fun t1 => ?_) (fun t1 => ?_)
    · skip
      refine ⟨_, rfl, _, _, _, _, rfl, rfl, (SqL.of (by walk_at "hp")), rfl, .inl ⟨_, rfl, ?_⟩⟩
      refine ⟨_, rfl, _, _, rfl, rfl, (by omega), fun r2 h2a h2b => ?_⟩
      refine ⟨_, rfl, _, _, _, _, rfl, rfl, (SqL.of (by walk_at "hp")), rfl, .inl ⟨_, rfl, ?_⟩⟩
      refine ⟨_, rfl, _, _, rfl, rfl, (by omega), fun r3 => ?_⟩
      refine ⟨_, rfl, _, _, _, _, rfl, rfl, (by walk_at "hp"), rfl, _, rfl, ?_⟩
      exact k _ _ _ _ (by walk_at "hp") (fun b o hb hne => by walk_at "hp") (by assumption) (by assumption) (by omega) (by omega)
    · skip
      refine ⟨_, rfl, _, _, _, _, rfl, rfl, (SqL.of (by walk_at "hp")), rfl, _, rfl, _, _, rfl, rfl, _, rfl, _, _, _, _, rfl, rfl, (by walk_at "hp"), rfl, _, rfl, _, _, rfl, rfl, (by omega), _, _, rfl, rfl, _, rfl, _, _, _, _, rfl, rfl, (SqL.of (by walk_at "hp")), rfl, (by show _ ≤ _; decide), fun q4 hq4 => ?_⟩
      refine ⟨.list (ns.map PyData.int), .list [], .lst (SqL.of (by walk_at "hp")) (dp_ints ns), .lst (SqL.of upd_same) .nil, shaped_ints ns, by decide, ?_⟩
      rw [eqv_nil]
      refine ⟨_, rfl, ?_⟩
      refine ite2 (fun t5 => ?_) (fun t5 => ?_)
      · skip
        refine ⟨_, rfl, _, _, _, _, rfl, rfl, (SqL.of (by walk_at "hp")), rfl, _, rfl, .inl ⟨_, rfl, ?_⟩⟩
        refine ⟨_, rfl, _, _, _, _, rfl, rfl, (SqL.of (by walk_at "hp")), rfl, _, _, rfl, .inl (SqL.of (by walk_at "hp")), _, _, rfl, rfl, (len_pos (by assumption)), fun r6 h6a h6b => ?_⟩
        obtain ⟨n, _, hn⟩ := at_map (ns := ns) h6a h6b
        refine ⟨_, _, _, _, rfl, rfl, SqL.of (by walk_at "hp"), hn, ?_⟩
        refine ⟨_, rfl, _, rfl, _, _, _, _, rfl, rfl, (SqL.of (by walk_at "hp")), rfl, _, _, rfl, .inl (SqL.of (by walk_at "hp")), _, _, rfl, rfl, _, rfl, ?_⟩
        refine ite2 (fun u1 => ?_) (fun u1 => ?_)
        · skip
          refine ⟨_, rfl, _, rfl, _, _, rfl, rfl, ⟨by decide, by decide, by omega⟩, fun r7 => ?_⟩
          refine ⟨_, _, rfl, rfl, _, rfl, ?_⟩
          refine ite2 (fun u2 => ?_) (fun u2 => ?_)
          · skip
            refine ⟨_, rfl, _, rfl, _, _, rfl, rfl, ⟨by decide, by decide, by omega⟩, fun r8 => ?_⟩
            refine ⟨_, _, rfl, rfl, _, _, rfl, rfl, (by omega), _, rfl, _, _, rfl, rfl, .inr ⟨_, rfl, ?_⟩⟩
            refine ⟨_, _, rfl, rfl, _, rfl, .inl ⟨_, rfl, ?_⟩⟩
            refine ⟨_, rfl, _, _, rfl, rfl, (by omega), fun r9 => ?_⟩
            refine ⟨_, rfl, _, _, _, _, rfl, rfl, (by walk_at "hp"), rfl, _, rfl, .inl ⟨_, rfl, ?_⟩⟩
            refine ⟨_, rfl, _, _, rfl, rfl, (by omega), fun r10 h10a h10b => ?_⟩
            exact k _ _ _ _ (by walk_at "hp") (fun b o hb hne => by walk_at "hp") (by assumption) (by assumption) (by omega) (by omega)
          · skip
            refine ⟨_, rfl, .inl ⟨_, rfl, ?_⟩⟩
            refine ⟨_, _, rfl, rfl, (by omega), fun r11 h11a h11b => ?_⟩
            refine ⟨_, rfl, _, _, rfl, rfl, (by omega), _, _, rfl, rfl, _, _, rfl, rfl, _, _, rfl, rfl, ⟨by decide, by decide, by omega⟩, fun r12 => ?_⟩
            refine .inl ⟨_, rfl, ?_⟩
            refine ⟨_, _, rfl, rfl, (by omega), fun r13 h13a h13b => ?_⟩
            refine ⟨_, rfl, _, rfl, _, _, rfl, rfl, (by omega), _, _, rfl, rfl, _, _, rfl, rfl, (by omega), _, rfl, _, _, rfl, rfl, (by omega), _, rfl, _, _, rfl, rfl, (by omega), _, _, rfl, rfl, _, _, rfl, rfl, _, _, rfl, rfl, ⟨by decide, by decide, pow3_b (by assumption) (by omega) WL WB (by decide) (by decide) (by decide) (by decide) (by decide) (by decide)⟩, fun r14 => ?_⟩
            refine .inl ⟨_, rfl, ?_⟩
            refine ⟨_, _, rfl, rfl, (by omega), fun r15 h15a h15b => ?_⟩
            refine ⟨_, rfl, _, _, rfl, rfl, (by omega), fun r16 => ?_⟩
            refine .inl ⟨_, rfl, ?_⟩
            refine ⟨_, rfl, _, _, rfl, rfl, (by omega), fun r17 h17a h17b => ?_⟩
            exact k _ _ _ _ (by walk_at "hp") (fun b o hb hne => by walk_at "hp") (by assumption) (by assumption) (by omega) (by omega)
        · skip
          refine ⟨_, rfl, .inl ⟨_, rfl, ?_⟩⟩
          refine ⟨_, _, rfl, rfl, (by omega), fun r18 h18a h18b => ?_⟩
          refine ⟨_, rfl, _, _, rfl, rfl, (by omega), _, _, rfl, rfl, _, _, rfl, rfl, _, _, rfl, rfl, ⟨by decide, by decide, by omega⟩, fun r19 => ?_⟩
          refine .inl ⟨_, rfl, ?_⟩
          refine ⟨_, _, rfl, rfl, (by omega), fun r20 h20a h20b => ?_⟩
          refine ⟨_, rfl, _, rfl, _, _, rfl, rfl, (by omega), _, _, rfl, rfl, _, _, rfl, rfl, (by omega), _, rfl, _, _, rfl, rfl, (by omega), _, rfl, _, _, rfl, rfl, (by omega), _, _, rfl, rfl, _, _, rfl, rfl, _, _, rfl, rfl, ⟨by decide, by decide, pow3_b (by assumption) (by omega) WL WB (by decide) (by decide) (by decide) (by decide) (by decide) (by decide)⟩, fun r21 => ?_⟩
          refine .inl ⟨_, rfl, ?_⟩
          refine ⟨_, _, rfl, rfl, (by omega), fun r22 h22a h22b => ?_⟩
          refine ⟨_, rfl, _, _, rfl, rfl, (by omega), fun r23 => ?_⟩
          refine .inl ⟨_, rfl, ?_⟩
          refine ⟨_, rfl, _, _, rfl, rfl, (by omega), fun r24 h24a h24b => ?_⟩
          exact k _ _ _ _ (by walk_at "hp") (fun b o hb hne => by walk_at "hp") (by assumption) (by assumption) (by omega) (by omega)
      · skip
        refine ⟨_, rfl, _, rfl, _, _, _, _, rfl, rfl, (SqL.of (by walk_at "hp")), rfl, _, _, rfl, .inl (SqL.of (by walk_at "hp")), _, _, rfl, rfl, _, rfl, ?_⟩
        refine ite2 (fun u1 => ?_) (fun u1 => ?_)
        · skip
          refine ⟨_, rfl, _, rfl, _, _, rfl, rfl, ⟨by decide, by decide, by omega⟩, fun r25 => ?_⟩
          refine ⟨_, _, rfl, rfl, _, rfl, ?_⟩
          refine ite2 (fun u2 => ?_) (fun u2 => ?_)
          · skip
            refine ⟨_, rfl, _, rfl, _, _, rfl, rfl, ⟨by decide, by decide, by omega⟩, fun r26 => ?_⟩
            refine ⟨_, _, rfl, rfl, _, _, rfl, rfl, (by omega), _, rfl, _, _, rfl, rfl, .inr ⟨_, rfl, ?_⟩⟩
            refine ⟨_, _, rfl, rfl, _, rfl, .inl ⟨_, rfl, ?_⟩⟩
            refine ⟨_, rfl, _, _, rfl, rfl, (by omega), fun r27 => ?_⟩
            refine ⟨_, rfl, _, _, _, _, rfl, rfl, (by walk_at "hp"), rfl, _, rfl, .inl ⟨_, rfl, ?_⟩⟩
            refine ⟨_, rfl, _, _, rfl, rfl, (by omega), fun r28 h28a h28b => ?_⟩
            exact k _ _ _ _ (by walk_at "hp") (fun b o hb hne => by walk_at "hp") (by assumption) (by assumption) (by omega) (by omega)
          · skip
            refine ⟨_, rfl, .inl ⟨_, rfl, ?_⟩⟩
            refine ⟨_, _, rfl, rfl, (by omega), fun r29 h29a h29b => ?_⟩
            refine ⟨_, rfl, _, _, rfl, rfl, (by omega), _, _, rfl, rfl, _, _, rfl, rfl, _, _, rfl, rfl, ⟨by decide, by decide, by omega⟩, fun r30 => ?_⟩
            refine .inl ⟨_, rfl, ?_⟩
            refine ⟨_, _, rfl, rfl, (by omega), fun r31 h31a h31b => ?_⟩
            refine ⟨_, rfl, _, rfl, _, _, rfl, rfl, (by omega), _, _, rfl, rfl, _, _, rfl, rfl, (by omega), _, rfl, _, _, rfl, rfl, (by omega), _, rfl, _, _, rfl, rfl, (by omega), _, _, rfl, rfl, _, _, rfl, rfl, _, _, rfl, rfl, ⟨by decide, by decide, pow3_b (by assumption) (by omega) WL WB (by decide) (by decide) (by decide) (by decide) (by decide) (by decide)⟩, fun r32 => ?_⟩
            refine .inl ⟨_, rfl, ?_⟩
            refine ⟨_, _, rfl, rfl, (by omega), fun r33 h33a h33b => ?_⟩
            refine ⟨_, rfl, _, _, rfl, rfl, (by omega), fun r34 => ?_⟩
            refine .inl ⟨_, rfl, ?_⟩
            refine ⟨_, rfl, _, _, rfl, rfl, (by omega), fun r35 h35a h35b => ?_⟩
            exact k _ _ _ _ (by walk_at "hp") (fun b o hb hne => by walk_at "hp") (by assumption) (by assumption) (by omega) (by omega)
        · skip
          refine ⟨_, rfl, .inl ⟨_, rfl, ?_⟩⟩
          refine ⟨_, _, rfl, rfl, (by omega), fun r36 h36a h36b => ?_⟩
          refine ⟨_, rfl, _, _, rfl, rfl, (by omega), _, _, rfl, rfl, _, _, rfl, rfl, _, _, rfl, rfl, ⟨by decide, by decide, by omega⟩, fun r37 => ?_⟩
          refine .inl ⟨_, rfl, ?_⟩
          refine ⟨_, _, rfl, rfl, (by omega), fun r38 h38a h38b => ?_⟩
          refine ⟨_, rfl, _, rfl, _, _, rfl, rfl, (by omega), _, _, rfl, rfl, _, _, rfl, rfl, (by omega), _, rfl, _, _, rfl, rfl, (by omega), _, rfl, _, _, rfl, rfl, (by omega), _, _, rfl, rfl, _, _, rfl, rfl, _, _, rfl, rfl, ⟨by decide, by decide, pow3_b (by assumption) (by omega) WL WB (by decide) (by decide) (by decide) (by decide) (by decide) (by decide)⟩, fun r39 => ?_⟩
          refine .inl ⟨_, rfl, ?_⟩
          refine ⟨_, _, rfl, rfl, (by omega), fun r40 h40a h40b => ?_⟩
          refine ⟨_, rfl, _, _, rfl, rfl, (by omega), fun r41 => ?_⟩
          refine .inl ⟨_, rfl, ?_⟩
          refine ⟨_, rfl, _, _, rfl, rfl, (by omega), fun r42 h42a h42b => ?_⟩
          exact k _ _ _ _ (by walk_at "hp") (fun b o hb hne => by walk_at "hp") (by assumption) (by assumption) (by omega) (by omega)
theorem g__law_pick (T : TX K mg) : FnG P w K mg base CX0 2 T.f__law_pick (spPick K) := by
  refine okG T.F__law_pick sc__law_pick (bd__law_pick T.F__law_pick) (fun vs H Q E h => ?_) (fun cdv A out s H vs Q E hr fr h => ?_)
  · obtain ⟨p, q, c, ns, a, g, xs, rfl, W, hq, hqp, x0, x1, k⟩ := h
    rfl
  · obtain ⟨p, q, c, ns, a, g, xs, rfl, W, hq, hqp, x0, x1, k⟩ := h
    refine ⟨_, (pss_one (ps_ret (pe_ix ix_list (pv 1) (pe_callG (g__law_draw T) (hr.mono (by decide)) fr (by rfl) T.m__law_draw T.F__law_draw.kp pass0 (pa_cons (pv 0) (pa_cons (pe_callB call_len_seq (by rfl) T.b_len PySem.boot_len (pa_cons (pv 1) pa_nil)) pa_nil))) (fun _ _ => rfl)))), ?_⟩
    refine ⟨_, rfl, _, rfl, _, rfl, _, _, rfl, .inl (SqL.of hq), ?_⟩
    refine ⟨p, c, ns, a, g, _, rfl, by omega, by omega, W, fun d a' g' H' hp kp d0 d1 h1 h2 => ?_⟩
    obtain ⟨x, hx, ha⟩ := at_some d0 d1
    exact ⟨q, xs, d, x, rfl, rfl, SqL.of (kp _ _ hq hqp), ha, k x a' g' H' hp kp hx h1 h2⟩
theorem g__law_low (T : TX K mg) : FnG P w K mg base CX0 1 T.f__law_low (spLow) := by
  refine okG T.F__law_low sc__law_low (bd__law_low T.F__law_low) (fun vs H Q E h => ?_) (fun cdv A out s H vs Q E hr fr h => ?_)
  · obtain ⟨u, l, rfl, l0, sl, su, k⟩ := h
    rfl
  · obtain ⟨u, l, rfl, l0, sl, su, k⟩ := h
    refine ⟨_, (pss_cons (ps_par (i := 2) (j := 3) (by rfl) sc__law_low.nd rfl rfl (by decide) rfl rfl (pa_cons (pe_callB call_abs (by rfl) T.b_abs (by decide +kernel) (pa_cons (pe_callTy call_int1 (by rfl) T.b_int (by decide +kernel) (pa_cons (pv 0) pa_nil)) pa_nil)) (pa_cons (pe_callTy call_int1 (by rfl) T.b_int (by decide +kernel) (pa_cons (pv 1) pa_nil)) pa_nil)) (by rfl))
 (pss_cons (ps_while PassesOwn.never (pt_cmpR op_ne (pv 3) pe_int (nomark _)) (pss_one (ps_par (i := 2) (j := 3) (by rfl) sc__law_low.nd rfl rfl (by decide) rfl rfl (pa_cons (pv 3) (pa_cons (pe_op op_mod (pe_callTy call_int1 (by rfl) T.b_int (by decide +kernel) (pa_cons (pv 2) pa_nil)) (pv 3)) pa_nil)) (by rfl))))
 (pss_one (ps_ret (pe_tup (pa_cons (pe_op op_fdivW (pe_callTy call_int1 (by rfl) T.b_int (by decide +kernel) (pa_cons (pv 0) pa_nil)) (pv 2)) (pa_cons (pe_op op_fdivW (pe_callTy call_int1 (by rfl) T.b_int (by decide +kernel) (pa_cons (pv 1) pa_nil)) (pv 2)) pa_nil))))))), ?_⟩
    refine ⟨_, rfl, .inl ⟨_, rfl, ?_⟩⟩
    refine ⟨_, rfl, _, rfl, .inl ⟨_, rfl, ?_⟩⟩
    refine ⟨_, _, rfl, ?_⟩
    refine while_by (fun σ H1 => H1 = H ∧ ∃ f s : Int, σ = [some (.int u), some (.int l), some (.int f), some (.int s)] ∧ 0 ≤ f ∧ 0 ≤ s ∧ Nat.gcd f.natAbs s.natAbs = Nat.gcd u.natAbs l.natAbs)
      (fun σ _ => match σ with | [_, _, _, some (.int s)] => s.toNat | _ => 0) ⟨rfl, _, l, rfl, by split <;> omega, by omega, by
        congr 1
        split <;> omega⟩ ?_ (fun σ H1 Q1 Q2 hq z => by
        obtain ⟨v, e1, e2, kk, e3, q⟩ := z
        exact ⟨v, e1, e2, kk, e3, hq _ _ q⟩)
    rintro σ H1 ⟨rfl, f, s, rfl, f0, s0, hg⟩
    refine ⟨_, rfl, rfl, _, rfl, ?_⟩
    rw [dec_int]
    refine ite2 (fun z => ?_) (fun z => ?_)
    · have s1 : s ≠ 0 := by intro y; subst y; exact absurd z (by decide)
      refine ⟨_, rfl, _, rfl, .inl ⟨_, rfl, ?_⟩⟩
      refine ⟨_, rfl, _, _, rfl, rfl, by omega, _, _, rfl, ⟨rfl, s, f % s, rfl, s0, Int.emod_nonneg f s1, ?_⟩, ?_⟩
      · rw [← hg]; exact gcd_step f0 (by omega)
      · show (f % s).toNat < s.toNat
        have := Int.emod_lt_of_pos f (show 0 < s by omega)
        have := Int.emod_nonneg f s1
        omega
    · have s1 : s = 0 := by
        by_cases y : s = 0
        · exact y
        · exact absurd (by simpa using y) z
      subst s1
      have fg : f = gd u l := by
        unfold gd
        rw [← hg, show (0 : Int).natAbs = 0 from rfl, Nat.gcd_zero_right]
        omega
      subst fg
      have g0 := gd_pos (t := u) l0
      have g1 : ∀ i, CDivW i (gd u l) := fun i => wide_div g0 (Nat.lt_of_le_of_lt (by have := gd_le (t := u) l0; omega) sl) (by decide) (by decide)
      refine ⟨_, rfl, .inl ⟨_, rfl, ?_⟩⟩
      refine ⟨_, rfl, _, _, rfl, rfl, g1 _, _, rfl, .inl ⟨_, rfl, ?_⟩⟩
      refine ⟨_, rfl, _, _, rfl, rfl, g1 _, by show 2 ≤ sizeLine; decide, fun q1 n1 => ?_⟩
      exact k q1 _ (Same.new n1) n1 upd_same
theorem g__law_is (T : TX K mg) : FnG P w K mg base CX0 1 T.f__law_is (spIs T.C_Ratio) := by
  refine okG T.F__law_is sc__law_is (bd__law_is T.F__law_is) (fun vs H Q E h => ?_) (fun cdv A out s H vs Q E hr fr h => ?_)
  · obtain ⟨x, y, rfl, ⟨a, p, t, b, rfl, rfl, ⟨dx, e⟩, hp, st, sb⟩, k⟩ := h
    rfl
  · obtain ⟨x, y, rfl, ⟨a, p, t, b, rfl, rfl, ⟨dx, e⟩, hp, st, sb⟩, k⟩ := h
    refine ⟨_, (pss_one (ps_ret (pe_and (pe_callB call_isi (by rfl) T.b_isinstance (by decide +kernel) (pa_cons (pv 0) (pa_cons (pe_glob (v := .ref T.C_Ratio) (by rfl) T.m_Ratio rfl) pa_nil))) (pe_one (pe_cmpR op_eq (pe_callB (call_reprII hr.units fr) (by rfl) T.b_repr (by decide +kernel) (pa_cons (pe_tup (pa_cons (pe_fld (pv 0) rfl) (pa_cons (pe_fld (pv 0) rfl) pa_nil))) pa_nil)) (pe_callB (call_reprII hr.units fr) (by rfl) T.b_repr (by decide +kernel) (pa_cons (pv 1) pa_nil)) (nomark _)))))), ?_⟩
    refine ⟨_, rfl, _, _, _, _, true, rfl, .own _, T.rc.ty e, kit_self, _, rfl, ?_⟩
    refine iteT ?_
    refine ⟨_, rfl, _, _, _, _, _, rfl, e, T.rc.cls, T.rc.nT, rfs_top _ _, _, rfl, _, _, _, _, _, rfl, e, T.rc.cls, T.rc.nB, rfs_bottom _ _, by show 2 ≤ sizeLine; decide, fun q1 n1 => ?_⟩
    refine ⟨q1, t, b, rfl, SqT.of upd_same, st, sb, ?_⟩
    refine ⟨_, rfl, p, t, b, rfl, SqT.of (hp_new hp n1), st, sb, rfl, ?_⟩
    rw [decide_eq_true rfl]
    exact k _ (Same.new n1)
theorem g__law_made (T : TX K mg) : FnG P w K mg base CX0 4 T.f__law_made (spMade T.C_Ratio) := by
  refine okG T.F__law_made sc__law_made (bd__law_made T.F__law_made) (fun vs H Q E h => ?_) (fun cdv A out s H vs Q E hr fr h => ?_)
  · obtain ⟨p, t, b, rfl, hp, hl, st, sb, k⟩ := h
    rfl
  · obtain ⟨p, t, b, rfl, hp, hl, st, sb, k⟩ := h
    refine ⟨_, (pss_one (ps_ret (pe_ifExp (pt_cmpR op_eq (pe_ix ix_tup (pv 0) pe_int (fun _ _ => rfl)) pe_int (nomark _)) pe_never (pe_make (T.mk_Ratio) (ok_Ratio___init__ T) (hr.mono (by decide)) (by rfl) T.m_Ratio T.bd2.choose_spec.2 T.bd2.choose_spec.1 pass0 (pa_cons (pe_ix ix_tup (pv 0) pe_int (fun _ _ => rfl)) (pa_cons (pe_ix ix_tup (pv 0) pe_int (fun _ _ => rfl)) pa_nil)))))), ?_⟩
    refine ⟨_, rfl, _, _, _, _, rfl, rfl, SqT.of hp, rfl, rfl, _, rfl, ?_⟩
    rw [dec_int]
    refine no_if (dec_no (by have := hl.1; omega)) ?_
    refine ⟨_, rfl, _, _, _, _, rfl, rfl, SqT.of hp, rfl, _, rfl, _, _, _, _, rfl, rfl, SqT.of hp, rfl, mkR hl.1 st sb ?_⟩
    rw [low_lo hl, low_lb hl]
    exact k
theorem g__law_results (T : TX K mg) : FnG P w K mg base CX0 2 T.f__law_results (spResults) := by
  refine okG T.F__law_results sc__law_results (bd__law_results T.F__law_results) (fun vs H Q E h => ?_) (fun cdv A out s H vs Q E hr fr h => ?_)
  · obtain ⟨p1, p2, t, b, u, d, rfl, h1, h2, b0, d0, st, sb, su, sd, k⟩ := h
    rfl
  · obtain ⟨p1, p2, t, b, u, d, rfl, h1, h2, b0, d0, st, sb, su, sd, k⟩ := h
    refine ⟨_, (pss_cons (ps_set (i := 2) sc__law_results.nd rfl (Or.inl rfl) (pe_lst (pa_cons (pe_callG (g__law_low T) (hr.mono (by decide)) fr (by rfl) T.m__law_low T.F__law_low.kp pass0 (pa_cons (pe_op op_add (pe_op op_mulW (pe_ix ix_tup (pv 0) pe_int (fun _ _ => rfl)) (pe_ix ix_tup (pv 1) pe_int (fun _ _ => rfl))) (pe_op op_mulW (pe_ix ix_tup (pv 1) pe_int (fun _ _ => rfl)) (pe_ix ix_tup (pv 0) pe_int (fun _ _ => rfl)))) (pa_cons (pe_op op_mulW (pe_ix ix_tup (pv 0) pe_int (fun _ _ => rfl)) (pe_ix ix_tup (pv 1) pe_int (fun _ _ => rfl))) pa_nil))) pa_nil)))
 (pss_cons (ps_expr (pe_bm PySem.F.plainAttrs_list PySem.F.slot_list_append PySem.F.type_list_append mt_append (pv 2) (pa_cons (pe_callG (g__law_low T) (hr.mono (by decide)) fr (by rfl) T.m__law_low T.F__law_low.kp pass0 (pa_cons (pe_op op_sub (pe_op op_mulW (pe_ix ix_tup (pv 0) pe_int (fun _ _ => rfl)) (pe_ix ix_tup (pv 1) pe_int (fun _ _ => rfl))) (pe_op op_mulW (pe_ix ix_tup (pv 1) pe_int (fun _ _ => rfl)) (pe_ix ix_tup (pv 0) pe_int (fun _ _ => rfl)))) (pa_cons (pe_op op_mulW (pe_ix ix_tup (pv 0) pe_int (fun _ _ => rfl)) (pe_ix ix_tup (pv 1) pe_int (fun _ _ => rfl))) pa_nil))) pa_nil)))
 (pss_cons (ps_expr (pe_bm PySem.F.plainAttrs_list PySem.F.slot_list_append PySem.F.type_list_append mt_append (pv 2) (pa_cons (pe_callG (g__law_low T) (hr.mono (by decide)) fr (by rfl) T.m__law_low T.F__law_low.kp pass0 (pa_cons (pe_op op_mulW (pe_ix ix_tup (pv 0) pe_int (fun _ _ => rfl)) (pe_ix ix_tup (pv 1) pe_int (fun _ _ => rfl))) (pa_cons (pe_op op_mulW (pe_ix ix_tup (pv 0) pe_int (fun _ _ => rfl)) (pe_ix ix_tup (pv 1) pe_int (fun _ _ => rfl))) pa_nil))) pa_nil)))
 (pss_one (ps_ret (pv 2)))))), ?_⟩
    refine ⟨_, rfl, _, _, _, _, rfl, rfl, (SqT.of (by walk_at "hp")), rfl, _, rfl, _, _, _, _, rfl, rfl, (SqT.of (by walk_at "hp")), rfl, _, _, rfl, rfl, (sm_cmul st sd (by decide) (by decide) (by decide)), _, rfl, _, _, _, _, rfl, rfl, (SqT.of (by walk_at "hp")), rfl, _, rfl, _, _, _, _, rfl, rfl, (SqT.of (by walk_at "hp")), rfl, _, _, rfl, rfl, (sm_cmul su sb (by decide) (by decide) (by decide)), _, _, rfl, rfl, _, rfl, _, _, _, _, rfl, rfl, (SqT.of (by walk_at "hp")), rfl, _, rfl, _, _, _, _, rfl, rfl, (SqT.of (by walk_at "hp")), rfl, _, _, rfl, rfl, (sm_cmul sb sd (by decide) (by decide) (by decide)), ?_⟩
    refine ⟨_, _, rfl, Int.mul_pos b0 d0, sm_mono (sm_mul sb sd) (by decide), sm_mono (sm_add (sm_mul st sd) (sm_mul su sb)) (by decide), fun q0 G0 z0 n0 e0 => ?_⟩
    refine ⟨by show 1 ≤ sizeLine; decide, fun q nq => ?_⟩
    refine ⟨_, rfl, .inl ⟨rfl, _, SqL.of upd_same⟩, ?_⟩
    refine ⟨_, rfl, _, _, _, _, rfl, rfl, (SqT.of (by walk_at "hp")), rfl, _, rfl, _, _, _, _, rfl, rfl, (SqT.of (by walk_at "hp")), rfl, _, _, rfl, rfl, (sm_cmul st sd (by decide) (by decide) (by decide)), _, rfl, _, _, _, _, rfl, rfl, (SqT.of (by walk_at "hp")), rfl, _, rfl, _, _, _, _, rfl, rfl, (SqT.of (by walk_at "hp")), rfl, _, _, rfl, rfl, (sm_cmul su sb (by decide) (by decide) (by decide)), _, _, rfl, rfl, _, rfl, _, _, _, _, rfl, rfl, (SqT.of (by walk_at "hp")), rfl, _, rfl, _, _, _, _, rfl, rfl, (SqT.of (by walk_at "hp")), rfl, _, _, rfl, rfl, (sm_cmul sb sd (by decide) (by decide) (by decide)), ?_⟩
    refine ⟨_, _, rfl, Int.mul_pos b0 d0, sm_mono (sm_mul sb sd) (by decide), sm_mono (sm_sub (sm_mul st sd) (sm_mul su sb)) (by decide), fun q1 G1 z1 n1 e1 => ?_⟩
    refine ⟨q, _, _, rfl, rfl, by walk_at "hp", by show 1 < sizeLine; decide, ?_⟩
    have w1 := upd_same (H := G1) (a := q) (o := .lst [V.ref q0, V.ref q1])
    refine ⟨_, rfl, .inl ⟨rfl, _, SqL.of upd_same⟩, ?_⟩
    have n0 : q0 ≠ q := ne_of_none e0 nq
    have m1 : q1 ≠ q := ne_of e1 (z1 _ _ upd_same) (by intro y; cases y)
    have m2 : p1 ≠ q := ne_of_none (z0 _ _ h1) nq
    have m3 : p2 ≠ q := ne_of_none (z0 _ _ h2) nq
    refine ⟨_, rfl, _, _, _, _, rfl, rfl, (SqT.of (by walk_at "hp")), rfl, _, rfl, _, _, _, _, rfl, rfl, (SqT.of (by walk_at "hp")), rfl, _, _, rfl, rfl, (sm_cmul st su (by decide) (by decide) (by decide)), _, rfl, _, _, _, _, rfl, rfl, (SqT.of (by walk_at "hp")), rfl, _, rfl, _, _, _, _, rfl, rfl, (SqT.of (by walk_at "hp")), rfl, _, _, rfl, rfl, (sm_cmul sb sd (by decide) (by decide) (by decide)), ?_⟩
    refine ⟨_, _, rfl, Int.mul_pos b0 d0, sm_mono (sm_mul sb sd) (by decide), sm_mono (sm_mul st su) (by decide), fun q2 G2 z2 n2 e2 => ?_⟩
    refine ⟨q, _, _, rfl, rfl, by walk_at "hp", by show 2 < sizeLine; decide, ?_⟩
    have m4 : q2 ≠ q := ne_of e2 (z2 _ _ upd_same) (by intro y; cases y)
    refine ⟨_, rfl, ?_⟩
    refine k q q0 q1 q2 _ ?_ upd_same (by walk_at "hp") (by walk_at "hp") (by walk_at "hp")
    have s0 : Same H G1 := z0.trans ((Same.new nq).trans z1)
    have nH : H q = none := z0.free nq
    have s1 : Same H G2 := (same_mut s0 nH).trans z2
    exact same_mut s1 nH
theorem g__law_are (T : TX K mg) : FnG P w K mg base CX0 2 T.f__law_are (spAre T.C_Ratio) := by
  refine okG T.F__law_are sc__law_are (bd__law_are T.F__law_are) (fun vs H Q E h => ?_) (fun cdv A out s H vs Q E hr fr h => ?_)
  · obtain ⟨p, q, xs, ys, rfl, hp, hq, hl, ar, k⟩ := h
    rfl
  · obtain ⟨p, q, xs, ys, rfl, hp, hq, hl, ar, k⟩ := h
    refine ⟨_, (pss_cons (ps_if (pt_cmpR op_ne (pe_callB call_len_seq (by rfl) T.b_len PySem.boot_len (pa_cons (pv 0) pa_nil)) (pe_callB call_len_seq (by rfl) T.b_len PySem.boot_len (pa_cons (pv 1) pa_nil)) (nomark _)) (pss_one (ps_ret pe_bl)) pss_nil)
 (pss_one (ps_ret (pe_cmpR (op_eqD hr.units) (pe_lc (own := [("_law_at", 2)]) (g := gName 2) (by rfl) sc__law_are.nd (pi_range1 (by rfl) T.b_range (pa_cons (pe_callB call_len_seq (by rfl) T.b_len PySem.boot_len (pa_cons (pv 1) pa_nil)) pa_nil)) (blkOk_by (own := [("_law_at", 2)]) (N := N__law_are) (sc := defScope s__law_are) (by decide +kernel)) (fun _ _ _ _ _ => (pg_name (i := 2) sc__law_are.nd rfl (Or.inl rfl))) (fun _ _ _ _ _ => (pts_one (pt_not (pt_val (pe_callG (g__law_is T) (hr.mono (by decide)) fr (by rfl) T.m__law_is T.F__law_is.kp pass0 (pa_cons (pe_ix (r := rIxL K) ix_list (pv 0) (pv 2) (fun _ _ => rfl)) (pa_cons (pe_ix (r := rIxL K) ix_list (pv 1) (pv 2) (fun _ _ => rfl)) pa_nil))))))) (fun _ _ _ _ _ => (pv 2))) (pe_lst pa_nil) (nomark _))))), ?_⟩
    refine ⟨_, rfl, _, _, rfl, .inl (SqL.of hp), _, rfl, _, _, rfl, .inl (SqL.of hq), rfl, _, rfl, ?_⟩
    rw [dec_int, decide_eq_true (by rw [ar.len] : (xs.length : Int) = (ys.length : Int))]
    refine iteF ?_
    refine ⟨_, rfl, _, _, rfl, .inl (SqL.of hq), _, rfl, by omega, by omega, fun D nD => ?_⟩
    refine lc_range (lo := 0) (n := ((ys.length : Int)).toNat) (fun i H1 => Same H H1 ∧ H1 D = some (.lst [])) ⟨Same.new nD, upd_same⟩ ?_ ?_
    · rintro i H1 hi ⟨s1, hD⟩
      have hi' : i < ys.length := by omega
      obtain ⟨x, y, ex, ey, f⟩ := ar.get i hi'
      refine ⟨rfl, ?_⟩
      refine ⟨_, rfl, _, rfl, _, _, _, _, rfl, rfl, SqL.of (s1 _ _ hp), (by rw [Int.zero_add]; exact atI_nat ex), _, rfl, _, rfl, _, _, _, _, rfl, rfl, SqL.of (s1 _ _ hq), (by rw [Int.zero_add]; exact atI_nat ey), ?_⟩
      refine ⟨x, y, rfl, f.same s1, fun H2 s2 => ?_⟩
      refine ⟨_, rfl, ?_⟩
      refine iteF ?_
      exact ⟨s1.trans s2, s2 _ _ hD⟩
    · rintro H1 ⟨s1, hD⟩
      refine ⟨by show 0 ≤ sizeLine; decide, fun q2 n2 => ?_⟩
      refine ⟨.list [], .list [], .lst (SqL.of (hp_new hD n2)) .nil, .lst (SqL.of upd_same) .nil, by decide, by decide, ?_⟩
      exact k _ (same_new s1 n2)
theorem g__law_in_place (T : TX K mg) : FnG P w K mg base CX0 7 T.f__law_in_place (spPlace T.C_Ratio) := by
  refine okG T.F__law_in_place sc__law_in_place (bd__law_in_place T.F__law_in_place) (fun vs H Q E h => ?_) (fun cdv A out s H vs Q E hr fr h => ?_)
  · obtain ⟨x, y, t, b, u, d, rfl, nx, ny, or, b0, d0, st, sb, su, sd, k⟩ := h
    rfl
  · obtain ⟨x, y, t, b, u, d, rfl, nx, ny, or, b0, d0, st, sb, su, sd, k⟩ := h
    refine ⟨_, (pss_cons (ps_set (i := 2) sc__law_in_place.nd rfl (Or.inl rfl) (pv 0))
 (pss_cons (ps_aug (i := 2) sc__law_in_place.nd rfl (Or.inl rfl) (pv 1) (ip_own T.op_add ((r_Ratio___add__ T).mono (by decide : 5 ≤ 6)) T.rf_add dec_add (r_Ratio___radd__ T) T.ni_add (hr.mono (by decide)) pass0))
 (pss_cons (ps_set (i := 3) sc__law_in_place.nd rfl (Or.inl rfl) (pv 0))
 (pss_cons (ps_aug (i := 3) sc__law_in_place.nd rfl (Or.inl rfl) (pv 1) (ip_own T.op_sub ((r_Ratio___sub__ T).mono (by decide : 5 ≤ 6)) T.rf_sub dec_sub (r_Ratio___rsub__ T) T.ni_sub (hr.mono (by decide)) pass0))
 (pss_cons (ps_set (i := 4) sc__law_in_place.nd rfl (Or.inl rfl) (pv 0))
 (pss_cons (ps_aug (i := 4) sc__law_in_place.nd rfl (Or.inl rfl) (pv 1) (ip_own T.op_mul ((r_Ratio___mul__ T).mono (by decide : 5 ≤ 6)) T.rf_mul dec_mul (r_Ratio___rmul__ T) T.ni_mul (hr.mono (by decide)) pass0))
 (pss_one (ps_ret (pe_lst (pa_cons (pv 2) (pa_cons (pv 3) (pa_cons (pv 4) pa_nil)))))))))))), ?_⟩
    refine ⟨_, rfl, ?_⟩
    refine ⟨_, rfl, _, rfl, opI add_comm4 gall_comm nx ny or b0 d0 st sb su sd fun a1 H1 s1 r1 => ?_⟩
    refine ⟨_, rfl, ?_⟩
    refine ⟨_, rfl, _, rfl, opI rsub_eq grev_eq (nx.same s1) (ny.same s1) or b0 d0 st sb su sd fun a2 H2 s2 r2 => ?_⟩
    refine ⟨_, rfl, ?_⟩
    refine ⟨_, rfl, _, rfl, opI mul_comm4 gall_comm (nx.same (s1.trans s2)) (ny.same (s1.trans s2)) or b0 d0 st sb su sd fun a3 H3 s3 r3 => ?_⟩
    refine ⟨_, rfl, _, rfl, _, rfl, by show 3 ≤ sizeLine; decide, fun q nq => ?_⟩
    have z3 := Same.new (o := .lst [.ref a1, .ref a2, .ref a3]) nq
    exact k q a1 a2 a3 _ (s1.trans (s2.trans (s3.trans z3))) upd_same (r1.same (s2.trans (s3.trans z3))) (r2.same (s3.trans z3)) (r3.same z3)
theorem g__law_fraction (T : TX K mg) : FnG P w K mg base CX0 3 T.f__law_fraction (spFrac) := by
  refine okG T.F__law_fraction sc__law_fraction (bd__law_fraction T.F__law_fraction) (fun vs H Q E h => ?_) (fun cdv A out s H vs Q E hr fr h => ?_)
  · obtain ⟨p, c, ns, a, g, rfl, W, ha, k⟩ := h
    rfl
  · obtain ⟨p, c, ns, a, g, rfl, W, ha, k⟩ := h
    refine ⟨_, (pss_cons (ps_set (i := 1) sc__law_fraction.nd rfl (Or.inl rfl) (pe_lst (pa_cons pe_int (pa_cons pe_int (pa_cons pe_int (pa_cons pe_int (pa_cons pe_int (pa_cons pe_int (pa_cons pe_int (pa_cons pe_int (pa_cons pe_int (pa_cons (pe_op op_add (pe_op op_pow pe_int pe_int) pe_int) (pa_cons (pe_op op_pow pe_int pe_int) (pa_cons (pe_callG (g__law_draw T) (hr.mono (by decide)) fr (by rfl) T.m__law_draw T.F__law_draw.kp pass0 (pa_cons (pv 0) (pa_cons pe_int pa_nil))) pa_nil))))))))))))))
 (pss_cons (ps_set (i := 2) sc__law_fraction.nd rfl (Or.inl rfl) (pe_lst (pa_cons pe_int (pa_cons pe_int (pa_cons pe_int (pa_cons pe_int (pa_cons pe_int (pa_cons pe_int (pa_cons pe_int (pa_cons pe_int (pa_cons pe_int (pa_cons (pe_op op_add (pe_op op_pow pe_int pe_int) pe_int) (pa_cons (pe_op op_pow pe_int pe_int) (pa_cons (pe_op op_add pe_int (pe_callG (g__law_draw T) (hr.mono (by decide)) fr (by rfl) T.m__law_draw T.F__law_draw.kp pass0 (pa_cons (pv 0) (pa_cons pe_int pa_nil)))) pa_nil))))))))))))))
 (pss_cons (ps_set (i := 3) sc__law_fraction.nd rfl (Or.inl rfl) (pe_op op_sub pe_int (pe_op op_mulL pe_int (pe_callTy call_int1 (by rfl) T.b_int (by decide +kernel) (pa_cons (pe_cmpR op_eq (pe_callG (g__law_draw T) (hr.mono (by decide)) fr (by rfl) T.m__law_draw T.F__law_draw.kp pass0 (pa_cons (pv 0) (pa_cons pe_int pa_nil))) pe_int (nomark _)) pa_nil)))))
 (pss_one (ps_ret (pe_callG (g__law_low T) (hr.mono (by decide)) fr (by rfl) T.m__law_low T.F__law_low.kp pass0 (pa_cons (pe_op op_mulL (pv 3) (pe_callG (g__law_pick T) (hr.mono (by decide)) fr (by rfl) T.m__law_pick T.F__law_pick.kp pass0 (pa_cons (pv 0) (pa_cons (pv 1) pa_nil)))) (pa_cons (pe_callG (g__law_pick T) (hr.mono (by decide)) fr (by rfl) T.m__law_pick T.F__law_pick.kp pass0 (pa_cons (pv 0) (pa_cons (pv 2) pa_nil))) pa_nil)))))))), ?_⟩
    refine ⟨_, _, rfl, rfl, ⟨by decide, by decide, by decide⟩, _, _, rfl, rfl, _, _, rfl, rfl, ⟨by decide, by decide, by decide⟩, _, rfl, p, c, ns, a, g, 100, rfl, by decide, by decide, W, fun d1 a1 g1 H1 hp1 k1 z1 y1 l1 u1 => ?_⟩
    refine ⟨by show 12 ≤ sizeLine; decide, fun q1 n1 => ?_⟩
    have W1 := (W.next l1 (by omega) hp1 k1).keep (Same.new n1 (o := .lst [.int 0, .int 1, .int 1, .int 2, .int 3, .int 5, .int 7, .int 12, .int 30, .int (10 ^ (9 : Int).toNat + 7), .int (10 ^ (29 : Int).toNat), .int d1]))
    have e1 : q1 ≠ p := (ne_of_none hp1 n1).symm
    refine ⟨_, _, rfl, rfl, ⟨by decide, by decide, by decide⟩, _, _, rfl, rfl, _, _, rfl, rfl, ⟨by decide, by decide, by decide⟩, _, rfl, p, c, ns, a1, g1, 100, rfl, by decide, by decide, W1, fun d2 a2 g2 H2 hp2 k2 z2 y2 l2 u2 => ?_⟩
    refine ⟨_, _, rfl, rfl, by show 12 ≤ sizeLine; decide, fun q2 n2 => ?_⟩
    have W2 := (W1.next l2 (by omega) hp2 k2).keep (Same.new n2 (o := .lst [.int 1, .int 1, .int 1, .int 2, .int 2, .int 3, .int 4, .int 6, .int 12, .int (10 ^ (9 : Int).toNat + 7), .int (10 ^ (29 : Int).toNat), .int (1 + d2)]))
    have e2 : q2 ≠ p := (ne_of_none hp2 n2).symm
    refine ⟨_, rfl, p, c, ns, a2, g2, 3, rfl, by decide, by decide, W2, fun d3 a3 g3 H3 hp3 k3 z3 y3 l3 u3 => ?_⟩
    refine ⟨rfl, .inr ⟨_, rfl, ?_⟩⟩
    refine ⟨_, _, rfl, rfl, ⟨by decide, by decide⟩, _, _, rfl, rfl, ?_⟩
    have sg := sign_cases (decide (V.int d3 = V.int 0))
    have W3 := W2.next l3 (by omega) hp3 k3
    have f1 := k3 _ _ (hp_new (k2 _ _ (upd_same (H := H1) (a := q1) (o := .lst [.int 0, .int 1, .int 1, .int 2, .int 3, .int 5, .int 7, .int 12, .int 30, .int (10 ^ (9 : Int).toNat + 7), .int (10 ^ (29 : Int).toNat), .int d1])) e1) n2) e1
    have f2 := k3 _ _ (upd_same (H := H2) (a := q2)) e2
    refine ⟨_, rfl, _, rfl, _, rfl, p, q1, c, ns, a3, g3, _, rfl, W3, f1, e1, (by show 0 < 12; decide), (by show 12 < 1000; decide), fun x a4 g4 H4 hp4 k4 hx l4 u4 => ?_⟩
    have A1 : AllI (Sm 97) [V.int 0, .int 1, .int 1, .int 2, .int 3, .int 5, .int 7, .int 12, .int 30, .int (10 ^ (9 : Int).toNat + 7), .int (10 ^ (29 : Int).toNat), .int d1] :=
      allI_cons (by decide) (allI_cons (by decide) (allI_cons (by decide) (allI_cons (by decide) (allI_cons (by decide) (allI_cons (by decide) (allI_cons (by decide) (allI_cons (by decide) (allI_cons (by decide) (allI_cons (by decide) (allI_cons (by decide) (allI_cons (sm_low z1 y1 (by decide)) allI_nil)))))))))))
    obtain ⟨n, rfl, sn⟩ := A1 x hx
    have W4 := W3.next l4 (by omega) hp4 k4
    refine ⟨_, _, rfl, rfl, by omega, _, rfl, _, rfl, p, q2, c, ns, a4, g4, _, rfl, W4, k4 _ _ f2 e2, e2, (by show 0 < 12; decide), (by show 12 < 1000; decide), fun y a5 g5 H5 hp5 k5 hy l5 u5 => ?_⟩
    have A2 : AllI (fun n => 0 < n ∧ Sm 97 n) [V.int 1, .int 1, .int 1, .int 2, .int 2, .int 3, .int 4, .int 6, .int 12, .int (10 ^ (9 : Int).toNat + 7), .int (10 ^ (29 : Int).toNat), .int (1 + d2)] :=
      allI_cons (by decide) (allI_cons (by decide) (allI_cons (by decide) (allI_cons (by decide) (allI_cons (by decide) (allI_cons (by decide) (allI_cons (by decide) (allI_cons (by decide) (allI_cons (by decide) (allI_cons (by decide) (allI_cons (by decide) (allI_cons ⟨by omega, sm_low (m := 101) (by omega) (by omega) (by decide)⟩ allI_nil)))))))))))
    obtain ⟨m, rfl, m0, sm⟩ := A2 y hy
    have st := sm_sign sg sn
    refine ⟨_, m, rfl, m0, sm_mono sm (by decide), sm_mono st (by decide), fun pp H6 s6 n6 e6 => ?_⟩
    have kk : Keep p H H5 := (((((k1.new n1).trans k2).new n2).trans k3).trans k4).trans k5
    refine k pp _ _ a5 g5 H6 (s6 _ _ hp5) (kk.trans (Keep.of s6)) ?_ e6 (low_of m0) (lo_small (sm_mono st (by decide)) m0) (lb_small (sm_mono sm (by decide)) m0) (by omega) (by omega)
    cases hq : H pp with
    | none => rfl
    | some o =>
      by_cases z : pp = p
      · subst z
        rw [hp5] at n6
        cases n6
      · rw [kk _ _ hq z] at n6
        cases n6
end
end RR
set_option maxHeartbeats 4000000
namespace RR
open PySem PySem.Spec PyProof.Rows L2
local macro_rules | `(tactic| walk_at "hp") => `(tactic| first | assumption | exact upd_same | (refine hp_new ?_ (by assumption); walk_at "hp") | (refine hp_mut ?_ (by first | assumption | (apply Ne.symm; assumption)); walk_at "hp") | (refine Same.at (by assumption) ?_; walk_at "hp"))
local macro_rules | `(tactic| walk_at "sq") => `(tactic| exact SqL.of (by walk_at "hp"))
local macro_rules | `(tactic| walk_at "sqT") => `(tactic| exact SqT.of (by walk_at "hp"))

section
variable {P : Program} {w : World} {K : PySem.W.Frag} {mg : Str → Option Value} {base : Heap}
theorem g__law_pair_right (T : TX K mg) : FnG P w K mg base CX0 8 T.f__law_pair_right (spPair) := by
  refine okG T.F__law_pair_right sc__law_pair_right (bd__law_pair_right T.F__law_pair_right) (fun vs H Q E h => ?_) (fun cdv A out s H vs Q E hr fr h => ?_)
  · obtain ⟨p1, p2, t, b, u, d, rfl, h1, h2, l1, l2, st, sb, su, sd, k⟩ := h
    rfl
  · obtain ⟨p1, p2, t, b, u, d, rfl, h1, h2, l1, l2, st, sb, su, sd, k⟩ := h
    refine ⟨_, (pss_cons (ps_par3 (i := 2) (j := 3) (l := 4) (by rfl) sc__law_pair_right.nd rfl rfl rfl (by decide) (by decide) (by decide) rfl rfl rfl (pa_cons (pe_callG (g__law_made T) (hr.mono (by decide)) fr (by rfl) T.m__law_made T.F__law_made.kp pass0 (pa_cons (pv 0) pa_nil)) (pa_cons (pe_callG (g__law_made T) (hr.mono (by decide)) fr (by rfl) T.m__law_made T.F__law_made.kp pass0 (pa_cons (pv 1) pa_nil)) (pa_cons (pe_callG (g__law_results T) (hr.mono (by decide)) fr (by rfl) T.m__law_results T.F__law_results.kp pass0 (pa_cons (pv 0) (pa_cons (pv 1) pa_nil))) pa_nil))) (by rfl))
 (pss_cons (ps_if (pt_not (pt_val (pe_callG (g__law_are T) (hr.mono (by decide)) fr (by rfl) T.m__law_are T.F__law_are.kp pass0 (pa_cons (pe_lst (pa_cons (pe_op (op_ownL T.op_add (r_Ratio___add__ T) (hr.mono (by decide)) pass0) (pv 2) (pv 3)) (pa_cons (pe_op (op_ownL T.op_sub (r_Ratio___sub__ T) (hr.mono (by decide)) pass0) (pv 2) (pv 3)) (pa_cons (pe_op (op_ownL T.op_mul (r_Ratio___mul__ T) (hr.mono (by decide)) pass0) (pv 2) (pv 3)) pa_nil)))) (pa_cons (pv 4) pa_nil))))) (pss_one (ps_ret pe_bl)) pss_nil)
 (pss_cons (ps_if (pt_not (pt_val (pe_callG (g__law_are T) (hr.mono (by decide)) fr (by rfl) T.m__law_are T.F__law_are.kp pass0 (pa_cons (pe_callG (g__law_in_place T) (hr.mono (by decide)) fr (by rfl) T.m__law_in_place T.F__law_in_place.kp pass0 (pa_cons (pv 2) (pa_cons (pv 3) pa_nil))) (pa_cons (pv 4) pa_nil))))) (pss_one (ps_ret pe_bl)) pss_nil)
 (pss_cons (ps_if (pt_cmpR op_eq (pe_ix ix_tup (pv 1) pe_int (fun _ _ => rfl)) pe_int (nomark _)) (pss_cons (ps_par (i := 5) (j := 6) (by rfl) sc__law_pair_right.nd rfl rfl (by decide) rfl rfl (pa_cons (pe_ix ix_tup (pv 1) pe_int (fun _ _ => rfl)) (pa_cons (pe_callG (g__law_results T) (hr.mono (by decide)) fr (by rfl) T.m__law_results T.F__law_results.kp pass0 (pa_cons (pv 1) (pa_cons (pv 0) pa_nil))) pa_nil)) (by rfl))
 (pss_cons (ps_if (pt_not (pt_val (pe_callG (g__law_are T) (hr.mono (by decide)) fr (by rfl) T.m__law_are T.F__law_are.kp pass0 (pa_cons (pe_lst (pa_cons (pe_op (op_ownL T.op_add (r_Ratio___add__ T) (hr.mono (by decide)) pass0) (pv 2) (pv 5)) (pa_cons (pe_op (op_ownL T.op_sub (r_Ratio___sub__ T) (hr.mono (by decide)) pass0) (pv 2) (pv 5)) (pa_cons (pe_op (op_ownL T.op_mul (r_Ratio___mul__ T) (hr.mono (by decide)) pass0) (pv 2) (pv 5)) pa_nil)))) (pa_cons (pv 4) pa_nil))))) (pss_one (ps_ret pe_bl)) pss_nil)
 (pss_cons (ps_if (pt_not (pt_val (pe_callG (g__law_are T) (hr.mono (by decide)) fr (by rfl) T.m__law_are T.F__law_are.kp pass0 (pa_cons (pe_lst (pa_cons (pe_op (op_ownR T.rf_add dec_add (r_Ratio___radd__ T) (hr.mono (by decide)) pass0) (pv 5) (pv 2)) (pa_cons (pe_op (op_ownR T.rf_sub dec_sub (r_Ratio___rsub__ T) (hr.mono (by decide)) pass0) (pv 5) (pv 2)) (pa_cons (pe_op (op_ownR T.rf_mul dec_mul (r_Ratio___rmul__ T) (hr.mono (by decide)) pass0) (pv 5) (pv 2)) pa_nil)))) (pa_cons (pv 6) pa_nil))))) (pss_one (ps_ret pe_bl)) pss_nil)
 (pss_one (ps_if (PW.pt (pw_or (pt_not (pt_val (pe_callG (g__law_are T) (hr.mono (by decide)) fr (by rfl) T.m__law_are T.F__law_are.kp pass0 (pa_cons (pe_callG (g__law_in_place T) (hr.mono (by decide)) fr (by rfl) T.m__law_in_place T.F__law_in_place.kp pass0 (pa_cons (pv 2) (pa_cons (pv 5) pa_nil))) (pa_cons (pv 4) pa_nil))))) (pw_or1 (pt_not (pt_val (pe_callG (g__law_are T) (hr.mono (by decide)) fr (by rfl) T.m__law_are T.F__law_are.kp pass0 (pa_cons (pe_callG (g__law_in_place T) (hr.mono (by decide)) fr (by rfl) T.m__law_in_place T.F__law_in_place.kp pass0 (pa_cons (pv 5) (pa_cons (pv 2) pa_nil))) (pa_cons (pv 6) pa_nil)))))))) (pss_one (ps_ret pe_bl)) pss_nil))))) pss_nil)
 (pss_one (ps_ret (pe_and (pe_callG (g__law_is T) (hr.mono (by decide)) fr (by rfl) T.m__law_is T.F__law_is.kp pass0 (pa_cons (pv 2) (pa_cons (pv 0) pa_nil))) (pe_one (pe_callG (g__law_is T) (hr.mono (by decide)) fr (by rfl) T.m__law_is T.F__law_is.kp pass0 (pa_cons (pv 3) (pa_cons (pv 1) pa_nil))))))))))), ?_⟩
    have T1 := sm_mono st (by decide : 100 ≤ 1000)
    have T2 := sm_mono sb (by decide : 100 ≤ 1000)
    have T3 := sm_mono su (by decide : 100 ≤ 1000)
    have T4 := sm_mono sd (by decide : 100 ≤ 1000)
    have b0 := l1.1
    have d0 := l2.1
    refine ⟨_, rfl, p1, t, b, rfl, h1, l1, sm_mono st (by decide), sm_mono sb (by decide), fun a1 G1 s1 r1 => ?_⟩
    refine ⟨_, rfl, p2, u, d, rfl, s1 _ _ h2, l2, sm_mono su (by decide), sm_mono sd (by decide), fun a2 G2 s2 r2 => ?_⟩
    refine ⟨_, rfl, _, rfl, p1, p2, t, b, u, d, rfl, s2 _ _ (s1 _ _ h1), s2 _ _ (s1 _ _ h2), b0, d0, T1, T2, T3, T4, fun q q1 q2 q3 G3 s3 hq e1 e2 e3 => ?_⟩
    refine ⟨_, _, _, rfl, ?_⟩
    have R1 := r1.same (s2.trans s3)
    have R2 := r2.same s3
    have S0 := Same.refl G3
    have P1 := s3 _ _ (s2 _ _ (s1 _ _ h1))
    have P2 := s3 _ _ (s2 _ _ (s1 _ _ h2))
    have D1 : ResP G3 q t b u d := ⟨q1, q2, q3, hq, e1, e2, e3⟩
    have SH : Same H G3 := s1.trans (s2.trans s3)
    refine ⟨_, rfl, _, rfl, opL (R1.same S0) (.inl ⟨a2, rfl, R2.same S0⟩) b0 d0 T1 T2 T3 T4 fun c1a G1a s1a v1a => ?_⟩
    refine ⟨_, rfl, _, rfl, opL (R1.same (S0.trans s1a)) (.inl ⟨a2, rfl, R2.same (S0.trans s1a)⟩) b0 d0 T1 T2 T3 T4 fun c1b G1b s1b v1b => ?_⟩
    refine ⟨_, rfl, _, rfl, opL (R1.same ((S0.trans s1a).trans s1b)) (.inl ⟨a2, rfl, R2.same ((S0.trans s1a).trans s1b)⟩) b0 d0 T1 T2 T3 T4 fun c1c G1c s1c v1c => ?_⟩
    refine ⟨by show 3 ≤ sizeLine; decide, fun L1 nL1 => ?_⟩
    refine ⟨_, rfl, are3 (resR_of v1a s1b v1b s1c v1c nL1) (D1.same ((((S0.trans s1a).trans s1b).trans s1c).trans (Same.new nL1))) b0 d0 st sb su sd fun G1d s1d => ?_⟩
    have S1 : Same G3 G1d := ((((S0.trans s1a).trans s1b).trans s1c).trans (Same.new nL1)).trans s1d
    refine ⟨_, rfl, ?_⟩
    refine iteF ?_
    refine ⟨_, rfl, _, rfl, _, _, t, b, u, d, rfl, .inl ⟨a1, rfl, R1.same S1⟩, .inl ⟨a2, rfl, R2.same S1⟩, .inl ⟨a1, rfl⟩, b0, d0, T1, T2, T3, T4, fun m m1 m2 m3 G8 s8 hm x1 x2 x3 => ?_⟩
    refine ⟨_, rfl, are3 ⟨m1, m2, m3, hm, x1, x2, x3⟩ (D1.same (S1.trans s8)) b0 d0 st sb su sd fun G9 s9 => ?_⟩
    have S2 : Same G3 G9 := (S1.trans s8).trans s9
    refine ⟨_, rfl, ?_⟩
    refine iteF ?_
    have fin : ∀ G, Same G3 G → ∀ H', Same G H' → Q (.bl true) H' := fun G s H' s' => k H' (SH.trans (s.trans s'))
    refine ⟨_, rfl, _, _, _, _, rfl, rfl, SqT.of (S2 _ _ P2), rfl, rfl, _, rfl, ?_⟩
    rw [dec_int]
    refine ite2 (fun z => ?_) (fun z => ?_)
    · obtain rfl : d = 1 := of_decide_eq_true z
      refine ⟨_, rfl, _, _, _, _, rfl, rfl, SqT.of (S2 _ _ P2), rfl, _, rfl, _, rfl, p2, p1, u, 1, t, b, rfl, S2 _ _ P2, S2 _ _ P1, d0, b0, T3, T4, T1, T2, fun y y1 y2 y3 G10 s10 hy f1 f2 f3 => ?_⟩
      have S3 : Same G3 G10 := S2.trans s10
      have D2 : ResP G10 y u 1 t b := ⟨y1, y2, y3, hy, f1, f2, f3⟩
      refine ⟨_, _, rfl, ?_⟩
      refine ⟨_, rfl, _, rfl, opL (R1.same S3) (.inr ⟨rfl, rfl⟩) b0 d0 T1 T2 T3 T4 fun c4a G4a s4a v4a => ?_⟩
      refine ⟨_, rfl, _, rfl, opL (R1.same (S3.trans s4a)) (.inr ⟨rfl, rfl⟩) b0 d0 T1 T2 T3 T4 fun c4b G4b s4b v4b => ?_⟩
      refine ⟨_, rfl, _, rfl, opL (R1.same ((S3.trans s4a).trans s4b)) (.inr ⟨rfl, rfl⟩) b0 d0 T1 T2 T3 T4 fun c4c G4c s4c v4c => ?_⟩
      refine ⟨by show 3 ≤ sizeLine; decide, fun L4 nL4 => ?_⟩
      refine ⟨_, rfl, are3 (resR_of v4a s4b v4b s4c v4c nL4) (D1.same ((((S3.trans s4a).trans s4b).trans s4c).trans (Same.new nL4))) b0 d0 st sb su sd fun G4d s4d => ?_⟩
      have S4 : Same G3 G4d := ((((S3.trans s4a).trans s4b).trans s4c).trans (Same.new nL4)).trans s4d
      refine ⟨_, rfl, ?_⟩
      refine iteF ?_
      have Z0 := Same.refl G4d
      have W4 : Same G10 G4d := (((s4a.trans s4b).trans s4c).trans (Same.new nL4)).trans s4d
      have E2 : ResP G4d y u 1 t b := D2.same W4
      refine ⟨_, rfl, _, rfl, opR2 add_comm4 gall_comm (R1.same (S4.trans Z0)) b0 T1 T2 T3 fun c5a G5a s5a v5a => ?_⟩
      refine ⟨_, rfl, _, rfl, opR2 rsub_eq grev_eq (R1.same (S4.trans (Z0.trans s5a))) b0 T1 T2 T3 fun c5b G5b s5b v5b => ?_⟩
      refine ⟨_, rfl, _, rfl, opR2 mul_comm4 gall_comm (R1.same (S4.trans ((Z0.trans s5a).trans s5b))) b0 T1 T2 T3 fun c5c G5c s5c v5c => ?_⟩
      refine ⟨by show 3 ≤ sizeLine; decide, fun L5 nL5 => ?_⟩
      refine ⟨_, rfl, are3 (resR_of v5a s5b v5b s5c v5c nL5) (E2.same ((((Z0.trans s5a).trans s5b).trans s5c).trans (Same.new nL5))) d0 b0 su sd st sb fun G5d s5d => ?_⟩
      have S5 : Same G4d G5d := ((((Z0.trans s5a).trans s5b).trans s5c).trans (Same.new nL5)).trans s5d
      refine ⟨_, rfl, ?_⟩
      refine iteF ?_
      have S6 : Same G3 G5d := S4.trans S5
      refine ⟨_, rfl, _, rfl, _, _, t, b, u, 1, rfl, .inl ⟨a1, rfl, R1.same S6⟩, .inr ⟨rfl, rfl⟩, .inl ⟨a1, rfl⟩, b0, d0, T1, T2, T3, T4, fun w w1 w2 w3 G12 s12 hw g1 g2 g3 => ?_⟩
      refine ⟨_, rfl, are3 ⟨w1, w2, w3, hw, g1, g2, g3⟩ (D1.same (S6.trans s12)) b0 d0 st sb su sd fun G13 s13 => ?_⟩
      have S7 : Same G3 G13 := (S6.trans s12).trans s13
      refine ⟨_, rfl, ?_⟩
      refine iteF ?_
      refine ⟨_, rfl, _, rfl, _, _, u, 1, t, b, rfl, .inr ⟨rfl, rfl⟩, .inl ⟨a1, rfl, R1.same S7⟩, .inr ⟨a1, rfl⟩, d0, b0, T3, T4, T1, T2, fun o o1 o2 o3 G14 s14 ho i1 i2 i3 => ?_⟩
      refine ⟨_, rfl, are3 ⟨o1, o2, o3, ho, i1, i2, i3⟩ (((E2.same S5).same (s12.trans s13)).same s14) d0 b0 su sd st sb fun G15 s15 => ?_⟩
      refine ⟨_, rfl, ?_⟩
      refine iteF ?_
      have S8 : Same G3 G15 := (S7.trans s14).trans s15
      refine ⟨_, rfl, _, rfl, _, _, rfl, ⟨a1, p1, t, b, rfl, rfl, R1.same S8, S8 _ _ P1, sm_mono st (by decide), sm_mono sb (by decide)⟩, fun G16 s16 => ?_⟩
      refine ⟨_, rfl, ?_⟩
      refine iteT ?_
      exact ⟨_, rfl, _, rfl, _, _, rfl, ⟨a2, p2, u, 1, rfl, rfl, R2.same (S8.trans s16), (S8.trans s16) _ _ P2, sm_mono su (by decide), sm_mono sd (by decide)⟩, fin _ (S8.trans s16)⟩
    · refine ⟨_, rfl, _, rfl, _, _, rfl, ⟨a1, p1, t, b, rfl, rfl, R1.same S2, S2 _ _ P1, sm_mono st (by decide), sm_mono sb (by decide)⟩, fun G16 s16 => ?_⟩
      refine ⟨_, rfl, ?_⟩
      refine iteT ?_
      exact ⟨_, rfl, _, rfl, _, _, rfl, ⟨a2, p2, u, d, rfl, rfl, R2.same (S2.trans s16), (S2.trans s16) _ _ P2, sm_mono su (by decide), sm_mono sd (by decide)⟩, fin _ (S2.trans s16)⟩
theorem g__law_alone_right (T : TX K mg) : FnG P w K mg base CX0 8 T.f__law_alone_right (spAlone) := by
  refine okG T.F__law_alone_right sc__law_alone_right (bd__law_alone_right T.F__law_alone_right) (fun vs H Q E h => ?_) (fun cdv A out s H vs Q E hr fr h => ?_)
  · obtain ⟨p, t, b, rfl, h1, hl, st, sb, k⟩ := h
    rfl
  · obtain ⟨p, t, b, rfl, h1, hl, st, sb, k⟩ := h
    refine ⟨_, (pss_cons (ps_par (i := 1) (j := 2) (by rfl) sc__law_alone_right.nd rfl rfl (by decide) rfl rfl (pa_cons (pe_callG (g__law_made T) (hr.mono (by decide)) fr (by rfl) T.m__law_made T.F__law_made.kp pass0 (pa_cons (pv 0) pa_nil)) (pa_cons (pe_tup (pa_cons (pe_op op_sub pe_int (pe_ix ix_tup (pv 0) pe_int (fun _ _ => rfl))) (pa_cons (pe_ix ix_tup (pv 0) pe_int (fun _ _ => rfl)) pa_nil))) pa_nil)) (by rfl))
 (pss_cons (ps_set (i := 3) sc__law_alone_right.nd rfl (Or.inl rfl) (pe_tup (pa_cons (pe_callB call_abs (by rfl) T.b_abs (by decide +kernel) (pa_cons (pe_ix ix_tup (pv 0) pe_int (fun _ _ => rfl)) pa_nil)) (pa_cons (pe_ix ix_tup (pv 0) pe_int (fun _ _ => rfl)) pa_nil))))
 (pss_cons (ps_set (i := 4) sc__law_alone_right.nd rfl (Or.inl rfl) (pe_lst (pa_cons (pe_un (un_negO T.ng.1 T.ng.2 (r_Ratio___neg__ T) (hr.mono (by decide)) pass0) (pv 1)) (pa_cons (pe_un (un_negO T.ng.1 T.ng.2 (r_Ratio___neg__ T) (hr.mono (by decide)) pass0) (pe_un (un_negO T.ng.1 T.ng.2 (r_Ratio___neg__ T) (hr.mono (by decide)) pass0) (pv 1))) (pa_cons (pe_callB (call_absO T.ab.1 T.ab.2 (r_Ratio___abs__ T) (hr.mono (by decide)) pass0) (by rfl) T.b_abs (by decide +kernel) (pa_cons (pv 1) pa_nil)) (pa_cons (pe_callB (call_absO T.ab.1 T.ab.2 (r_Ratio___abs__ T) (hr.mono (by decide)) pass0) (by rfl) T.b_abs (by decide +kernel) (pa_cons (pe_un (un_negO T.ng.1 T.ng.2 (r_Ratio___neg__ T) (hr.mono (by decide)) pass0) (pv 1)) pa_nil)) pa_nil))))))
 (pss_cons (ps_if (pt_not (pt_val (pe_callG (g__law_are T) (hr.mono (by decide)) fr (by rfl) T.m__law_are T.F__law_are.kp pass0 (pa_cons (pv 4) (pa_cons (pe_lst (pa_cons (pv 2) (pa_cons (pv 0) (pa_cons (pv 3) (pa_cons (pv 3) pa_nil))))) pa_nil))))) (pss_one (ps_ret pe_bl)) pss_nil)
 (pss_one (ps_ret (pe_callG (g__law_are T) (hr.mono (by decide)) fr (by rfl) T.m__law_are T.F__law_are.kp pass0 (pa_cons (pe_lst (pa_cons (pe_op (op_ownL T.op_sub (r_Ratio___sub__ T) (hr.mono (by decide)) pass0) (pv 1) (pv 1)) (pa_cons (pe_op (op_ownL T.op_add (r_Ratio___add__ T) (hr.mono (by decide)) pass0) (pv 1) (pe_un (un_negO T.ng.1 T.ng.2 (r_Ratio___neg__ T) (hr.mono (by decide)) pass0) (pv 1))) (pa_cons (pe_op (op_ownL T.op_mul (r_Ratio___mul__ T) (hr.mono (by decide)) pass0) (pv 1) pe_int) (pa_cons (pe_op (op_ownR T.rf_mul dec_mul (r_Ratio___rmul__ T) (hr.mono (by decide)) pass0) pe_int (pv 1)) (pa_cons (pe_op (op_ownL T.op_mul (r_Ratio___mul__ T) (hr.mono (by decide)) pass0) (pv 1) pe_int) pa_nil)))))) (pa_cons (pe_op op_cat (pe_op op_rep (pe_lst (pa_cons (pe_tup (pa_cons pe_int (pa_cons pe_int pa_nil))) pa_nil)) pe_int) (pe_lst (pa_cons (pv 0) pa_nil))) pa_nil))))))))), ?_⟩
    have T1 := sm_mono st (by decide : 100 ≤ 1000)
    have T2 := sm_mono sb (by decide : 100 ≤ 1000)
    have T0 : Sm 1000 0 := sm_0
    have T9 : Sm 1000 1 := sm_1 (by decide)
    have b0 := hl.1
    refine ⟨_, rfl, p, t, b, rfl, h1, hl, sm_mono st (by decide), sm_mono sb (by decide), fun a G1 s1 r1 => ?_⟩
    have e1 := s1 _ _ h1
    refine ⟨_, rfl, _, _, _, _, rfl, rfl, SqT.of (by walk_at "hp"), rfl, _, _, rfl, rfl, _, rfl, _, _, _, _, rfl, rfl, SqT.of (by walk_at "hp"), rfl, by show 2 ≤ sizeLine; decide, fun bk nb => ?_⟩
    refine ⟨_, _, rfl, ?_⟩
    have e2 := hp_new (o := .tup [.int (0 - t), .int b]) e1 nb
    refine ⟨_, rfl, _, _, _, _, rfl, rfl, SqT.of (by walk_at "hp"), rfl, _, rfl, _, rfl, _, _, _, _, rfl, rfl, SqT.of (by walk_at "hp"), rfl, by show 2 ≤ sizeLine; decide, fun sz nz => ?_⟩
    have R1 := (r1.same (Same.new nb (o := .tup [.int (0 - t), .int b]))).same (Same.new nz (o := .tup [.int (if t < 0 then -t else t), .int b]))
    have f1 := hp_new (o := .tup [.int (if t < 0 then -t else t), .int b]) (upd_same (H := G1) (a := bk) (o := .tup [.int (0 - t), .int b])) nz
    have f2 := upd_same (H := upd G1 bk (.tup [.int (0 - t), .int b])) (a := sz) (o := .tup [.int (if t < 0 then -t else t), .int b])
    have f3 := hp_new (o := .tup [.int (if t < 0 then -t else t), .int b]) e2 nz
    have S0 : Same H _ := (s1.trans (Same.new nb (o := .tup [.int (0 - t), .int b]))).trans (Same.new nz (o := .tup [.int (if t < 0 then -t else t), .int b]))
    generalize hG : upd (upd G1 bk (.tup [.int (0 - t), .int b])) sz (.tup [.int (if t < 0 then -t else t), .int b]) = G2 at R1 f1 f2 f3 S0 ⊢
    clear hG e2 nb nz
    refine ⟨_, rfl, negL R1 hl T1 T2 fun c1 G3 s3 v1 => ?_⟩
    refine ⟨_, rfl, negL (R1.same s3) hl T1 T2 fun c0 G4 s4 v0 => ?_⟩
    refine negL v0 (low_neg hl) (sm_neg T1) T2 fun c2 G5 s5 v2 => ?_
    rw [Int.neg_neg] at v2
    refine ⟨_, rfl, absL (R1.same (s3.trans (s4.trans s5))) hl T1 T2 fun c3 G6 s6 v3 => ?_⟩
    refine ⟨_, rfl, negL (R1.same (s3.trans (s4.trans (s5.trans s6)))) hl T1 T2 fun c9 G7 s7 v9 => ?_⟩
    refine absL v9 (low_neg hl) (sm_neg T1) T2 fun c4 G8 s8 v4 => ?_
    rw [abs_neg_eq] at v4
    refine ⟨by show 4 ≤ sizeLine; decide, fun L nL => ?_⟩
    have Z8 := Same.new nL (o := .lst [.ref c1, .ref c2, .ref c3, .ref c4])
    have S8 : Same G2 G8 := s3.trans (s4.trans (s5.trans (s6.trans (s7.trans s8))))
    have w1 := v1.same (((s4.trans s5).trans ((s6.trans s7).trans s8)).trans Z8)
    have w2 := v2.same ((s6.trans (s7.trans s8)).trans Z8)
    have w3 := v3.same ((s7.trans s8).trans Z8)
    have w4 := v4.same Z8
    have S9 := S8.trans Z8
    have hL := upd_same (H := G8) (a := L) (o := .lst [.ref c1, .ref c2, .ref c3, .ref c4])
    generalize hG : upd G8 L (.lst [.ref c1, .ref c2, .ref c3, .ref c4]) = G9 at w1 w2 w3 w4 S9 hL ⊢
    clear hG nL Z8
    refine ⟨_, rfl, _, rfl, _, rfl, _, rfl, _, rfl, by show 4 ≤ sizeLine; decide, fun L2 n2 => ?_⟩
    have Z9 := Same.new n2 (o := .lst [.ref bk, .ref p, .ref sz, .ref sz])
    have X : Sm 1900 t := sm_mono st (by decide)
    have Y : Sm 1900 b := sm_mono sb (by decide)
    have VV : Sm 1900 (if t < 0 then -t else t) := by split; exact sm_neg X; exact X
    have S10 := S9.trans Z9
    have hbk := S10 _ _ f1
    rw [Int.zero_sub] at hbk
    refine ⟨⟨L, L2, _, _, rfl, Z9 _ _ hL, upd_same, by show 4 < 1000; decide, .cons ⟨c1, bk, _, _, rfl, rfl, w1.same Z9, hbk, sm_neg X, Y⟩ (.cons ⟨c2, p, _, _, rfl, rfl, w2.same Z9, S10 _ _ f3, X, Y⟩
      (.cons ⟨c3, sz, _, _, rfl, rfl, w3.same Z9, S10 _ _ f2, VV, Y⟩ (.cons ⟨c4, sz, _, _, rfl, rfl, w4.same Z9, S10 _ _ f2, VV, Y⟩ .nil))), fun G10 s10 => ?_⟩⟩
    refine ⟨_, rfl, ?_⟩
    refine iteF ?_
    have S11 : Same G2 G10 := S10.trans s10
    have R2 := R1.same S11
    have P2 := S11 _ _ f3
    have SH : Same H G10 := S0.trans S11
    refine ⟨_, rfl, _, rfl, opL R2 (.inl ⟨a, rfl, R2⟩) b0 b0 T1 T2 T1 T2 fun d1 H1 u1 x1 => ?_⟩
    rw [sub_self0, sub_self1 b0] at x1
    refine ⟨_, rfl, _, rfl, negL (R2.same u1) hl T1 T2 fun d0 H0 u0 x0 => ?_⟩
    refine opL (R2.same (u1.trans u0)) (.inl ⟨d0, rfl, x0⟩) b0 b0 T1 T2 (sm_neg T1) T2 fun d2 H2 u2 x2 => ?_
    rw [add_neg0, add_neg1 b0] at x2
    refine ⟨_, rfl, opL (R2.same (u1.trans (u0.trans u2))) (.inr ⟨rfl, rfl⟩) b0 (by decide) T1 T2 T0 T9 fun d3 H3 u3 x3 => ?_⟩
    rw [mul_zero0, mul_zero1 b0] at x3
    refine ⟨_, rfl, opR (R2.same (u1.trans (u0.trans (u2.trans u3)))) b0 T1 T2 T0 fun d4 H4 u4 x4 => ?_⟩
    rw [mul_zero0, mul_zero1 b0] at x4
    refine ⟨_, rfl, opL (R2.same (u1.trans (u0.trans (u2.trans (u3.trans u4))))) (.inr ⟨rfl, rfl⟩) b0 (by decide) T1 T2 T9 T9 fun d5 H5 u5 x5 => ?_⟩
    rw [mul_one0 hl, mul_one1 hl] at x5
    refine ⟨by show 5 ≤ sizeLine; decide, fun M nM => ?_⟩
    have Y1 := x1.same (u0.trans (u2.trans (u3.trans (u4.trans u5))))
    have Y2 := x2.same (u3.trans (u4.trans u5))
    have Y3 := x3.same (u4.trans u5)
    have Y4 := x4.same u5
    have U5 : Same G10 H5 := u1.trans (u0.trans (u2.trans (u3.trans (u4.trans u5))))
    refine ⟨by show 2 ≤ sizeLine; decide, fun z nz => ?_⟩
    refine ⟨by show 1 ≤ sizeLine; decide, fun l1 n1 => ?_⟩
    refine ⟨l1, 4, _, rfl, rfl, upd_same, by decide, by decide, by show 1 * 4 ≤ sizeLine; decide, fun l2 n2 => ?_⟩
    refine ⟨_, rfl, by show 1 ≤ sizeLine; decide, fun l3 n3 => ?_⟩
    refine ⟨l2, l3, _, _, rfl, rfl, hp_new upd_same n3, upd_same, by show 4 + 1 ≤ sizeLine; decide, fun l4 n4 => ?_⟩
    have Q1 : Same H5 _ := (((((Same.new nM (o := .lst [.ref d1, .ref d2, .ref d3, .ref d4, .ref d5])).trans (Same.new nz (o := .tup [.int 0, .int 1]))).trans (Same.new n1 (o := .lst [.ref z]))).trans (Same.new n2 (o := .lst (List.replicate (4 : Int).toNat [V.ref z]).flatten))).trans (Same.new n3 (o := .lst [.ref p]))).trans (Same.new n4 (o := .lst ((List.replicate (4 : Int).toNat [V.ref z]).flatten ++ [.ref p])))
    have hM := hp_new (o := .lst ((List.replicate (4 : Int).toNat [V.ref z]).flatten ++ [.ref p])) (hp_new (o := .lst [.ref p]) (hp_new (o := .lst (List.replicate (4 : Int).toNat [V.ref z]).flatten) (hp_new (o := .lst [.ref z]) (hp_new (o := .tup [.int 0, .int 1]) (upd_same (H := H5) (a := M) (o := .lst [.ref d1, .ref d2, .ref d3, .ref d4, .ref d5])) nz) n1) n2) n3) n4
    have hz := hp_new (o := .lst ((List.replicate (4 : Int).toNat [V.ref z]).flatten ++ [.ref p])) (hp_new (o := .lst [.ref p]) (hp_new (o := .lst (List.replicate (4 : Int).toNat [V.ref z]).flatten) (hp_new (o := .lst [.ref z]) (upd_same (H := upd H5 M (.lst [.ref d1, .ref d2, .ref d3, .ref d4, .ref d5])) (a := z) (o := .tup [.int 0, .int 1])) n1) n2) n3) n4
    have O1 : Sm 1900 1 := sm_1 (by decide)
    have O0 : Sm 1900 0 := sm_0
    exact ⟨⟨M, l4, _, _, rfl, hM, upd_same, by show 5 < 1000; decide, .cons ⟨d1, z, _, _, rfl, rfl, Y1.same Q1, hz, O0, O1⟩ (.cons ⟨d2, z, _, _, rfl, rfl, Y2.same Q1, hz, O0, O1⟩ (.cons ⟨d3, z, _, _, rfl, rfl, Y3.same Q1, hz, O0, O1⟩
      (.cons ⟨d4, z, _, _, rfl, rfl, Y4.same Q1, hz, O0, O1⟩ (.cons ⟨d5, p, _, _, rfl, rfl, x5.same Q1, Q1 _ _ (U5 _ _ P2), X, Y⟩ .nil)))), fun G s => k G (SH.trans (U5.trans (Q1.trans s)))⟩⟩
theorem g_law (T : TX K mg) : FnG P w K mg base CX0 9 T.f_law (spLaw K) := by
  refine okG T.F_law sc_law (bd_law T.F_law) (fun vs H Q E h => ?_) (fun cdv A out s H vs Q E hr fr h => ?_)
  · obtain ⟨a, ns, rfl, hS, hl, k⟩ := h
    rfl
  · obtain ⟨a, ns, rfl, hS, hl, k⟩ := h
    refine ⟨_, (pss_cons (ps_set (i := 1) sc_law.nd rfl (Or.inl rfl) (pe_callG (g__law_pen T) (hr.mono (by decide)) fr (by rfl) T.m__law_pen T.F__law_pen.kp pass0 (pa_cons (pv 0) pa_nil)))
 (pss_cons (ps_for PassesOwn.never rfl (pi_range1 (by rfl) T.b_range (pa_cons pe_int pa_nil)) (pg_name (i := 2) sc_law.nd rfl (Or.inl rfl))
 (pss_cons (ps_par (i := 3) (j := 4) (by rfl) sc_law.nd rfl rfl (by decide) rfl rfl (pa_cons (pe_callG (g__law_fraction T) (hr.mono (by decide)) fr (by rfl) T.m__law_fraction T.F__law_fraction.kp pass0 (pa_cons (pv 1) pa_nil)) (pa_cons (pe_callG (g__law_fraction T) (hr.mono (by decide)) fr (by rfl) T.m__law_fraction T.F__law_fraction.kp pass0 (pa_cons (pv 1) pa_nil)) pa_nil)) (by rfl))
 (pss_cons (ps_set (i := 5) sc_law.nd rfl (Or.inl rfl) (pe_callG (g__law_draw T) (hr.mono (by decide)) fr (by rfl) T.m__law_draw T.F__law_draw.kp pass0 (pa_cons (pv 1) (pa_cons pe_int pa_nil))))
 (pss_cons (ps_if (pt_cmpR op_eq (pv 5) pe_int (nomark _)) (pss_one (ps_set (i := 4) sc_law.nd rfl (Or.inl rfl) (pv 3))) pss_nil)
 (pss_cons (ps_if (pt_cmpR op_eq (pv 5) pe_int (nomark _)) (pss_one (ps_set (i := 4) sc_law.nd rfl (Or.inl rfl) (pe_tup (pa_cons (pe_op op_sub pe_int (pe_ix ix_tup (pv 3) pe_int (fun _ _ => rfl))) (pa_cons (pe_ix ix_tup (pv 3) pe_int (fun _ _ => rfl)) pa_nil))))) pss_nil)
 (pss_cons (ps_if (pt_cmpR op_gt (pv 5) pe_int (nomark _)) (pss_one (ps_set (i := 4) sc_law.nd rfl (Or.inl rfl) (pe_tup (pa_cons (pe_ix ix_tup (pv 4) pe_int (fun _ _ => rfl)) (pa_cons pe_int pa_nil))))) pss_nil)
 (pss_cons (ps_if (PW.pt (pw_or (pt_not (pt_val (pe_callG (g__law_pair_right T) (hr.mono (by decide)) fr (by rfl) T.m__law_pair_right T.F__law_pair_right.kp pass0 (pa_cons (pv 3) (pa_cons (pv 4) pa_nil))))) (pw_or1 (pt_not (pt_val (pe_callG (g__law_pair_right T) (hr.mono (by decide)) fr (by rfl) T.m__law_pair_right T.F__law_pair_right.kp pass0 (pa_cons (pv 4) (pa_cons (pv 3) pa_nil)))))))) (pss_one (ps_ret pe_bl)) pss_nil)
 (pss_one (ps_if (pt_not (pt_val (pe_callG (g__law_alone_right T) (hr.mono (by decide)) fr (by rfl) T.m__law_alone_right T.F__law_alone_right.kp pass0 (pa_cons (pv 3) pa_nil)))) (pss_one (ps_ret pe_bl)) pss_nil)))))))))
 (pss_one (ps_ret pe_bl)))), ?_⟩
    refine ⟨_, rfl, a, ns, rfl, hS, hl, fun p c H1 s1 np nc W => ?_⟩
    refine ⟨8, rfl, by decide, by decide, ?_⟩
    refine for_range (lo := 0) (n := 8) (fun i σ H2 => ∃ aa gg x1 x2 x3 x4, σ = [some (.ref a), some (.ref p), x1, x2, x3, x4] ∧ PenAt H2 p c ns aa gg ∧ aa ≤ 100 * (i : Int)) ⟨0, 0, none, none, none, none, rfl, W, by decide⟩ ?_ ?_
    · rintro i σ H2 hi ⟨aa, gg, x1, x2, x3, x4, rfl, W1, ha⟩
      have hi8 : (i : Int) < 8 := by omega
      refine ⟨_, rfl, p, c, ns, aa, gg, rfl, W1, by omega, fun q1 t b a3 g3 H3 hp3 k3 n3 e1 l1 st sb la3 lb3 => ?_⟩
      have W3 := W1.next la3 (by omega) hp3 k3
      have m1 : q1 ≠ p := (ne_of_none W1.pn n3).symm
      refine ⟨_, rfl, p, c, ns, a3, g3, rfl, W3, by omega, fun q2 u d a4 g4 H4 hp4 k4 n4 e2 l2 su sd la4 lb4 => ?_⟩
      have W4 := W3.next la4 (by omega) hp4 k4
      have m2 : q2 ≠ p := (ne_of_none W3.pn n4).symm
      refine ⟨_, _, rfl, ?_⟩
      refine ⟨_, rfl, p, c, ns, a4, g4, 6, rfl, by decide, by decide, W4, fun w a5 g5 H5 hp5 k5 w0 w1 la5 lb5 => ?_⟩
      have W5 := W4.next la5 (by omega) hp5 k5
      have o1 : Pr H5 q1 t b := k5 _ _ (k4 _ _ e1 m1) m1
      have o2 : Pr H5 q2 u d := k5 _ _ e2 m2
      have o3 := l2
      have o4 := su
      have o5 := sd
      refine ⟨_, rfl, rfl, _, rfl, ?_⟩
      rw [dec_int]
      refine ite2 (fun z => ?_) (fun z => ?_)
      · refine ⟨_, rfl, ?_⟩
        have o2 := o1
        have o3 := l1
        have o4 := st
        have o5 := sb
        refine ⟨_, rfl, rfl, _, rfl, ?_⟩
        rw [dec_int]
        refine ite2 (fun z1 => ?_) (fun z1 => ?_)
        · refine ⟨_, rfl, _, _, _, _, rfl, rfl, SqT.of o1, rfl, _, _, rfl, rfl, _, rfl, _, _, _, _, rfl, rfl, SqT.of o1, rfl, by show 2 ≤ sizeLine; decide, fun qn nn => ?_⟩
          have W6 := W5.keep (Same.new nn (o := .tup [.int (0 - t), .int b]))
          have o1 := hp_new (o := .tup [.int (0 - t), .int b]) o1 nn
          have o2 : Pr (upd H5 qn (.tup [.int (0 - t), .int b])) qn (0 - t) b := upd_same
          have o3 : Low (0 - t) b := by rw [Int.zero_sub]; exact low_neg l1
          have o4 : Sm 100 (0 - t) := by rw [Int.zero_sub]; exact sm_neg st
          have o5 := sb
          refine ⟨_, rfl, _, _, rfl, rfl, _, rfl, ?_⟩
          refine ite2 (fun z2 => ?_) (fun z2 => ?_)
          · refine ⟨_, rfl, _, _, _, _, rfl, rfl, SqT.of o2, rfl, by show 2 ≤ sizeLine; decide, fun qm nm => ?_⟩
            refine ⟨_, rfl, _, rfl, _, _, _, _, _, _, rfl, (hp_new o1 nm), upd_same, l1, (low_one _), st, sb, o4, (sm_1 (by decide)), fun H8 s8 => ?_⟩
            refine ⟨_, rfl, ?_⟩
            refine iteF ?_
            refine ⟨_, rfl, _, rfl, _, _, _, _, _, _, rfl, s8 _ _ upd_same, s8 _ _ (hp_new o1 nm), (low_one _), l1, o4, (sm_1 (by decide)), st, sb, fun H9 s9 => ?_⟩
            refine ⟨_, rfl, ?_⟩
            refine iteF ?_
            refine ⟨_, rfl, _, _, _, rfl, s9 _ _ (s8 _ _ (hp_new o1 nm)), l1, st, sb, fun H10 s10 => ?_⟩
            refine ⟨_, rfl, ?_⟩
            refine iteF ?_
            exact ⟨a5, g5, _, _, _, _, rfl, W6.keep ((Same.new nm).trans (s8.trans (s9.trans s10))), by omega⟩
          · skip
            refine ⟨_, rfl, _, rfl, _, _, _, _, _, _, rfl, o1, o2, l1, o3, st, sb, o4, o5, fun H8 s8 => ?_⟩
            refine ⟨_, rfl, ?_⟩
            refine iteF ?_
            refine ⟨_, rfl, _, rfl, _, _, _, _, _, _, rfl, s8 _ _ o2, s8 _ _ o1, o3, l1, o4, o5, st, sb, fun H9 s9 => ?_⟩
            refine ⟨_, rfl, ?_⟩
            refine iteF ?_
            refine ⟨_, rfl, _, _, _, rfl, s9 _ _ (s8 _ _ o1), l1, st, sb, fun H10 s10 => ?_⟩
            refine ⟨_, rfl, ?_⟩
            refine iteF ?_
            exact ⟨a5, g5, _, _, _, _, rfl, W6.keep ((s8.trans (s9.trans s10))), by omega⟩
        · have W6 := W5
          refine ⟨_, rfl, _, _, rfl, rfl, _, rfl, ?_⟩
          refine ite2 (fun z2 => ?_) (fun z2 => ?_)
          · refine ⟨_, rfl, _, _, _, _, rfl, rfl, SqT.of o2, rfl, by show 2 ≤ sizeLine; decide, fun qm nm => ?_⟩
            refine ⟨_, rfl, _, rfl, _, _, _, _, _, _, rfl, (hp_new o1 nm), upd_same, l1, (low_one _), st, sb, o4, (sm_1 (by decide)), fun H8 s8 => ?_⟩
            refine ⟨_, rfl, ?_⟩
            refine iteF ?_
            refine ⟨_, rfl, _, rfl, _, _, _, _, _, _, rfl, s8 _ _ upd_same, s8 _ _ (hp_new o1 nm), (low_one _), l1, o4, (sm_1 (by decide)), st, sb, fun H9 s9 => ?_⟩
            refine ⟨_, rfl, ?_⟩
            refine iteF ?_
            refine ⟨_, rfl, _, _, _, rfl, s9 _ _ (s8 _ _ (hp_new o1 nm)), l1, st, sb, fun H10 s10 => ?_⟩
            refine ⟨_, rfl, ?_⟩
            refine iteF ?_
            exact ⟨a5, g5, _, _, _, _, rfl, W6.keep ((Same.new nm).trans (s8.trans (s9.trans s10))), by omega⟩
          · skip
            refine ⟨_, rfl, _, rfl, _, _, _, _, _, _, rfl, o1, o2, l1, o3, st, sb, o4, o5, fun H8 s8 => ?_⟩
            refine ⟨_, rfl, ?_⟩
            refine iteF ?_
            refine ⟨_, rfl, _, rfl, _, _, _, _, _, _, rfl, s8 _ _ o2, s8 _ _ o1, o3, l1, o4, o5, st, sb, fun H9 s9 => ?_⟩
            refine ⟨_, rfl, ?_⟩
            refine iteF ?_
            refine ⟨_, rfl, _, _, _, rfl, s9 _ _ (s8 _ _ o1), l1, st, sb, fun H10 s10 => ?_⟩
            refine ⟨_, rfl, ?_⟩
            refine iteF ?_
            exact ⟨a5, g5, _, _, _, _, rfl, W6.keep ((s8.trans (s9.trans s10))), by omega⟩
      · skip
        refine ⟨_, rfl, rfl, _, rfl, ?_⟩
        rw [dec_int]
        refine ite2 (fun z1 => ?_) (fun z1 => ?_)
        · refine ⟨_, rfl, _, _, _, _, rfl, rfl, SqT.of o1, rfl, _, _, rfl, rfl, _, rfl, _, _, _, _, rfl, rfl, SqT.of o1, rfl, by show 2 ≤ sizeLine; decide, fun qn nn => ?_⟩
          have W6 := W5.keep (Same.new nn (o := .tup [.int (0 - t), .int b]))
          have o1 := hp_new (o := .tup [.int (0 - t), .int b]) o1 nn
          have o2 : Pr (upd H5 qn (.tup [.int (0 - t), .int b])) qn (0 - t) b := upd_same
          have o3 : Low (0 - t) b := by rw [Int.zero_sub]; exact low_neg l1
          have o4 : Sm 100 (0 - t) := by rw [Int.zero_sub]; exact sm_neg st
          have o5 := sb
          refine ⟨_, rfl, _, _, rfl, rfl, _, rfl, ?_⟩
          refine ite2 (fun z2 => ?_) (fun z2 => ?_)
          · refine ⟨_, rfl, _, _, _, _, rfl, rfl, SqT.of o2, rfl, by show 2 ≤ sizeLine; decide, fun qm nm => ?_⟩
            refine ⟨_, rfl, _, rfl, _, _, _, _, _, _, rfl, (hp_new o1 nm), upd_same, l1, (low_one _), st, sb, o4, (sm_1 (by decide)), fun H8 s8 => ?_⟩
            refine ⟨_, rfl, ?_⟩
            refine iteF ?_
            refine ⟨_, rfl, _, rfl, _, _, _, _, _, _, rfl, s8 _ _ upd_same, s8 _ _ (hp_new o1 nm), (low_one _), l1, o4, (sm_1 (by decide)), st, sb, fun H9 s9 => ?_⟩
            refine ⟨_, rfl, ?_⟩
            refine iteF ?_
            refine ⟨_, rfl, _, _, _, rfl, s9 _ _ (s8 _ _ (hp_new o1 nm)), l1, st, sb, fun H10 s10 => ?_⟩
            refine ⟨_, rfl, ?_⟩
            refine iteF ?_
            exact ⟨a5, g5, _, _, _, _, rfl, W6.keep ((Same.new nm).trans (s8.trans (s9.trans s10))), by omega⟩
          · skip
            refine ⟨_, rfl, _, rfl, _, _, _, _, _, _, rfl, o1, o2, l1, o3, st, sb, o4, o5, fun H8 s8 => ?_⟩
            refine ⟨_, rfl, ?_⟩
            refine iteF ?_
            refine ⟨_, rfl, _, rfl, _, _, _, _, _, _, rfl, s8 _ _ o2, s8 _ _ o1, o3, l1, o4, o5, st, sb, fun H9 s9 => ?_⟩
            refine ⟨_, rfl, ?_⟩
            refine iteF ?_
            refine ⟨_, rfl, _, _, _, rfl, s9 _ _ (s8 _ _ o1), l1, st, sb, fun H10 s10 => ?_⟩
            refine ⟨_, rfl, ?_⟩
            refine iteF ?_
            exact ⟨a5, g5, _, _, _, _, rfl, W6.keep ((s8.trans (s9.trans s10))), by omega⟩
        · have W6 := W5
          refine ⟨_, rfl, _, _, rfl, rfl, _, rfl, ?_⟩
          refine ite2 (fun z2 => ?_) (fun z2 => ?_)
          · refine ⟨_, rfl, _, _, _, _, rfl, rfl, SqT.of o2, rfl, by show 2 ≤ sizeLine; decide, fun qm nm => ?_⟩
            refine ⟨_, rfl, _, rfl, _, _, _, _, _, _, rfl, (hp_new o1 nm), upd_same, l1, (low_one _), st, sb, o4, (sm_1 (by decide)), fun H8 s8 => ?_⟩
            refine ⟨_, rfl, ?_⟩
            refine iteF ?_
            refine ⟨_, rfl, _, rfl, _, _, _, _, _, _, rfl, s8 _ _ upd_same, s8 _ _ (hp_new o1 nm), (low_one _), l1, o4, (sm_1 (by decide)), st, sb, fun H9 s9 => ?_⟩
            refine ⟨_, rfl, ?_⟩
            refine iteF ?_
            refine ⟨_, rfl, _, _, _, rfl, s9 _ _ (s8 _ _ (hp_new o1 nm)), l1, st, sb, fun H10 s10 => ?_⟩
            refine ⟨_, rfl, ?_⟩
            refine iteF ?_
            exact ⟨a5, g5, _, _, _, _, rfl, W6.keep ((Same.new nm).trans (s8.trans (s9.trans s10))), by omega⟩
          · skip
            refine ⟨_, rfl, _, rfl, _, _, _, _, _, _, rfl, o1, o2, l1, o3, st, sb, o4, o5, fun H8 s8 => ?_⟩
            refine ⟨_, rfl, ?_⟩
            refine iteF ?_
            refine ⟨_, rfl, _, rfl, _, _, _, _, _, _, rfl, s8 _ _ o2, s8 _ _ o1, o3, l1, o4, o5, st, sb, fun H9 s9 => ?_⟩
            refine ⟨_, rfl, ?_⟩
            refine iteF ?_
            refine ⟨_, rfl, _, _, _, rfl, s9 _ _ (s8 _ _ o1), l1, st, sb, fun H10 s10 => ?_⟩
            refine ⟨_, rfl, ?_⟩
            refine iteF ?_
            exact ⟨a5, g5, _, _, _, _, rfl, W6.keep ((s8.trans (s9.trans s10))), by omega⟩
    · rintro σ H2 ⟨aa, gg, x1, x2, x3, x4, rfl, W1, ha⟩
      exact k H2
end
end RR
set_option maxHeartbeats 4000000
namespace RR
open PySem PySem.Spec PyProof.Rows L2
local macro_rules | `(tactic| walk_at "hp") => `(tactic| first | assumption | exact upd_same | (refine hp_new ?_ (by assumption); walk_at "hp") | (refine hp_mut ?_ (by first | assumption | (apply Ne.symm; assumption)); walk_at "hp") | (refine Same.at (by assumption) ?_; walk_at "hp"))
local macro_rules | `(tactic| walk_at "sq") => `(tactic| exact SqL.of (by walk_at "hp"))
local macro_rules | `(tactic| walk_at "sqT") => `(tactic| exact SqT.of (by walk_at "hp"))

theorem bdOne {K : PySem.W.Frag} {f : Addr} {fd : FuncData} (F : FunD K "__init__" "Ratio.__init__" (defArgs s_Ratio___init__) (defBody s_Ratio___init__) (defScope s_Ratio___init__) [.int 1] [] f fd) : ∃ ds, Vals [V.int 1] ds ∧ Binds K fd ["self", "top", "bottom"] ds :=
  F.binds1 (ps := ["self", "top", "bottom"]) 2 0 (by decide) rfl fun T kV doc pm an cdv ct us its h1 h2 => match us, its, h1, h2 with | [_, _], [_], _, _ => ⟨_, rfl, rfl⟩
theorem bdTwo {K : PySem.W.Frag} {f : Addr} {fd : FuncData} (F : FunD K "__init__" "Ratio.__init__" (defArgs s_Ratio___init__) (defBody s_Ratio___init__) (defScope s_Ratio___init__) [.int 1] [] f fd) : ∃ ds, Vals [] ds ∧ Binds K fd ["self", "top", "bottom"] ds :=
  F.binds1 (ps := ["self", "top", "bottom"]) 3 1 (by decide) rfl fun T kV doc pm an cdv ct us its h1 h2 => match us, its, h1, h2 with | [_, _, _], [_], _, _ => ⟨_, rfl, rfl⟩
theorem build {K : PySem.W.Frag} {h : Heap} {mg : Str → Option Value} {fa : Addr} (X : K.In h) (G : h.Ns mainGlobals mg) (hfa : mg "law" = some (.ref fa))
    {C_Ratio : Addr}
    {f_Ratio___init__ : Addr} {oc_Ratio___init__ kV_Ratio___init__ doc_Ratio___init__ pm_Ratio___init__ cd_Ratio___init__ ct_Ratio___init__ oD : Value} {od_Ratio___init__ an_Ratio___init__ dD : Option Addr} {sl_Ratio___init__ sD : Array (Option Value)} {tD : Addr} {tkD : Tok} {nD : Nat}
    {p_is_endless p_of : Addr} {mc_Ratio : Value} {rest_p rest_s : List Value} {cdR : ClassData}
    {f_Ratio_of : Addr} {oc_Ratio_of kV_Ratio_of doc_Ratio_of pm_Ratio_of cd_Ratio_of ct_Ratio_of : Value} {od_Ratio_of an_Ratio_of : Option Addr} {sl_Ratio_of : Array (Option Value)}
    {f_Ratio_is_endless : Addr} {oc_Ratio_is_endless kV_Ratio_is_endless doc_Ratio_is_endless pm_Ratio_is_endless cd_Ratio_is_endless ct_Ratio_is_endless : Value} {od_Ratio_is_endless an_Ratio_is_endless : Option Addr} {sl_Ratio_is_endless : Array (Option Value)}
    {f_Ratio___add__ : Addr} {oc_Ratio___add__ kV_Ratio___add__ doc_Ratio___add__ pm_Ratio___add__ cd_Ratio___add__ ct_Ratio___add__ : Value} {od_Ratio___add__ an_Ratio___add__ : Option Addr} {sl_Ratio___add__ : Array (Option Value)}
    {f_Ratio___radd__ : Addr} {oc_Ratio___radd__ kV_Ratio___radd__ doc_Ratio___radd__ pm_Ratio___radd__ cd_Ratio___radd__ ct_Ratio___radd__ : Value} {od_Ratio___radd__ an_Ratio___radd__ : Option Addr} {sl_Ratio___radd__ : Array (Option Value)}
    {f_Ratio___sub__ : Addr} {oc_Ratio___sub__ kV_Ratio___sub__ doc_Ratio___sub__ pm_Ratio___sub__ cd_Ratio___sub__ ct_Ratio___sub__ : Value} {od_Ratio___sub__ an_Ratio___sub__ : Option Addr} {sl_Ratio___sub__ : Array (Option Value)}
    {f_Ratio___rsub__ : Addr} {oc_Ratio___rsub__ kV_Ratio___rsub__ doc_Ratio___rsub__ pm_Ratio___rsub__ cd_Ratio___rsub__ ct_Ratio___rsub__ : Value} {od_Ratio___rsub__ an_Ratio___rsub__ : Option Addr} {sl_Ratio___rsub__ : Array (Option Value)}
    {f_Ratio___mul__ : Addr} {oc_Ratio___mul__ kV_Ratio___mul__ doc_Ratio___mul__ pm_Ratio___mul__ cd_Ratio___mul__ ct_Ratio___mul__ : Value} {od_Ratio___mul__ an_Ratio___mul__ : Option Addr} {sl_Ratio___mul__ : Array (Option Value)}
    {f_Ratio___rmul__ : Addr} {oc_Ratio___rmul__ kV_Ratio___rmul__ doc_Ratio___rmul__ pm_Ratio___rmul__ cd_Ratio___rmul__ ct_Ratio___rmul__ : Value} {od_Ratio___rmul__ an_Ratio___rmul__ : Option Addr} {sl_Ratio___rmul__ : Array (Option Value)}
    {f_Ratio___neg__ : Addr} {oc_Ratio___neg__ kV_Ratio___neg__ doc_Ratio___neg__ pm_Ratio___neg__ cd_Ratio___neg__ ct_Ratio___neg__ : Value} {od_Ratio___neg__ an_Ratio___neg__ : Option Addr} {sl_Ratio___neg__ : Array (Option Value)}
    {f_Ratio___abs__ : Addr} {oc_Ratio___abs__ kV_Ratio___abs__ doc_Ratio___abs__ pm_Ratio___abs__ cd_Ratio___abs__ ct_Ratio___abs__ : Value} {od_Ratio___abs__ an_Ratio___abs__ : Option Addr} {sl_Ratio___abs__ : Array (Option Value)}
    {f_Ratio___lt__ : Addr} {oc_Ratio___lt__ kV_Ratio___lt__ doc_Ratio___lt__ pm_Ratio___lt__ cd_Ratio___lt__ ct_Ratio___lt__ : Value} {od_Ratio___lt__ an_Ratio___lt__ : Option Addr} {sl_Ratio___lt__ : Array (Option Value)}
    {f_is_int : Addr} {oc_is_int kV_is_int doc_is_int pm_is_int cd_is_int ct_is_int : Value} {od_is_int an_is_int : Option Addr} {sl_is_int : Array (Option Value)}
    {f__law_pen : Addr} {oc__law_pen kV__law_pen doc__law_pen pm__law_pen cd__law_pen ct__law_pen : Value} {od__law_pen an__law_pen : Option Addr} {sl__law_pen : Array (Option Value)}
    {f__law_draw : Addr} {oc__law_draw kV__law_draw doc__law_draw pm__law_draw cd__law_draw ct__law_draw : Value} {od__law_draw an__law_draw : Option Addr} {sl__law_draw : Array (Option Value)}
    {f__law_pick : Addr} {oc__law_pick kV__law_pick doc__law_pick pm__law_pick cd__law_pick ct__law_pick : Value} {od__law_pick an__law_pick : Option Addr} {sl__law_pick : Array (Option Value)}
    {f__law_low : Addr} {oc__law_low kV__law_low doc__law_low pm__law_low cd__law_low ct__law_low : Value} {od__law_low an__law_low : Option Addr} {sl__law_low : Array (Option Value)}
    {f__law_is : Addr} {oc__law_is kV__law_is doc__law_is pm__law_is cd__law_is ct__law_is : Value} {od__law_is an__law_is : Option Addr} {sl__law_is : Array (Option Value)}
    {f__law_made : Addr} {oc__law_made kV__law_made doc__law_made pm__law_made cd__law_made ct__law_made : Value} {od__law_made an__law_made : Option Addr} {sl__law_made : Array (Option Value)}
    {f__law_fraction : Addr} {oc__law_fraction kV__law_fraction doc__law_fraction pm__law_fraction cd__law_fraction ct__law_fraction : Value} {od__law_fraction an__law_fraction : Option Addr} {sl__law_fraction : Array (Option Value)}
    {f__law_results : Addr} {oc__law_results kV__law_results doc__law_results pm__law_results cd__law_results ct__law_results : Value} {od__law_results an__law_results : Option Addr} {sl__law_results : Array (Option Value)}
    {f__law_are : Addr} {oc__law_are kV__law_are doc__law_are pm__law_are cd__law_are ct__law_are : Value} {od__law_are an__law_are : Option Addr} {sl__law_are : Array (Option Value)}
    {f__law_in_place : Addr} {oc__law_in_place kV__law_in_place doc__law_in_place pm__law_in_place cd__law_in_place ct__law_in_place : Value} {od__law_in_place an__law_in_place : Option Addr} {sl__law_in_place : Array (Option Value)}
    {f__law_pair_right : Addr} {oc__law_pair_right kV__law_pair_right doc__law_pair_right pm__law_pair_right cd__law_pair_right ct__law_pair_right : Value} {od__law_pair_right an__law_pair_right : Option Addr} {sl__law_pair_right : Array (Option Value)}
    {f__law_alone_right : Addr} {oc__law_alone_right kV__law_alone_right doc__law_alone_right pm__law_alone_right cd__law_alone_right ct__law_alone_right : Value} {od__law_alone_right an__law_alone_right : Option Addr} {sl__law_alone_right : Array (Option Value)}
    {f_law : Addr} {oc_law kV_law doc_law pm_law cd_law ct_law : Value} {od_law an_law : Option Addr} {sl_law : Array (Option Value)}
    (aC_Ratio : PySem.W.nsIn K mainGlobals "Ratio" = some (some (.ref C_Ratio)))
    (i_Ratio___init__ : PySem.W.findIn K (.ref C_Ratio) "__init__" = some (some (.ref f_Ratio___init__)))
    (j_Ratio___init__ : PySem.W.isFn K (.ref f_Ratio___init__) = true)
    (l_Ratio___init__ : K.lookup f_Ratio___init__ = some ⟨oc_Ratio___init__, od_Ratio___init__, .func (PySem.W.fnOf "__init__" "Ratio.__init__" (defArgs s_Ratio___init__) (defBody s_Ratio___init__) (defScope s_Ratio___init__) (.ref tD) kV_Ratio___init__ doc_Ratio___init__ pm_Ratio___init__ an_Ratio___init__ cd_Ratio___init__ ct_Ratio___init__), sl_Ratio___init__⟩)
    (c_Ratio___init__ : PySem.W.codeIn K cd_Ratio___init__ "Ratio.__init__" = true)
    (k_Ratio___init__ : PySem.W.keepIn K (.ref f_Ratio___init__) = true)
    (lD : K.lookup tD = some ⟨oD, dD, .seq #[.int 1 tkD] nD, sD⟩)
    (mkR1 : PySem.W.makesIn K C_Ratio = true)
    (mkR2 : PySem.W.keepIn K (.ref C_Ratio) = true)
    (pg : PySem.W.plainGet K C_Ratio Str.empty = true)
    (hd : PySem.W.hasDictIn K C_Ratio = true)
    (po : PySem.W.plainOver K C_Ratio = true)
    (sa : PySem.W.findIn K (.ref C_Ratio) "__setattr__" = some (some (.builtin "object.__setattr__")))
    (nT : PySem.W.findIn K (.ref C_Ratio) "top" = some none)
    (nB : PySem.W.findIn K (.ref C_Ratio) "bottom" = some none)
    (ca : PySem.W.findIn K (.ref C_Ratio) "__class__" = some (some (.builtin "object.__class__")))
    (cn : PySem.W.specialIn K (.builtin "object.__class__") "__get__" = some (some (.builtin "getset_descriptor.__get__")))
    (ct : PySem.W.takesIn K (.builtin "object.__class__") = some true)
    (cm : PySem.W.mroIn K C_Ratio (.type "object") = some true)
    (k0 : PySem.W.kitOne K (.type "int") (.ref C_Ratio) = some false)
    (gg : PySem.W.nsIn K mainGlobals "gcd" = some (some (.builtin "math.gcd")))
    (i_Ratio___add__ : PySem.W.findIn K (.ref C_Ratio) "__add__" = some (some (.ref f_Ratio___add__)))
    (j_Ratio___add__ : PySem.W.isFn K (.ref f_Ratio___add__) = true)
    (i_Ratio___radd__ : PySem.W.findIn K (.ref C_Ratio) "__radd__" = some (some (.ref f_Ratio___radd__)))
    (j_Ratio___radd__ : PySem.W.isFn K (.ref f_Ratio___radd__) = true)
    (i_Ratio___sub__ : PySem.W.findIn K (.ref C_Ratio) "__sub__" = some (some (.ref f_Ratio___sub__)))
    (j_Ratio___sub__ : PySem.W.isFn K (.ref f_Ratio___sub__) = true)
    (i_Ratio___rsub__ : PySem.W.findIn K (.ref C_Ratio) "__rsub__" = some (some (.ref f_Ratio___rsub__)))
    (j_Ratio___rsub__ : PySem.W.isFn K (.ref f_Ratio___rsub__) = true)
    (i_Ratio___mul__ : PySem.W.findIn K (.ref C_Ratio) "__mul__" = some (some (.ref f_Ratio___mul__)))
    (j_Ratio___mul__ : PySem.W.isFn K (.ref f_Ratio___mul__) = true)
    (i_Ratio___rmul__ : PySem.W.findIn K (.ref C_Ratio) "__rmul__" = some (some (.ref f_Ratio___rmul__)))
    (j_Ratio___rmul__ : PySem.W.isFn K (.ref f_Ratio___rmul__) = true)
    (i_Ratio___neg__ : PySem.W.findIn K (.ref C_Ratio) "__neg__" = some (some (.ref f_Ratio___neg__)))
    (j_Ratio___neg__ : PySem.W.isFn K (.ref f_Ratio___neg__) = true)
    (i_Ratio___abs__ : PySem.W.findIn K (.ref C_Ratio) "__abs__" = some (some (.ref f_Ratio___abs__)))
    (j_Ratio___abs__ : PySem.W.isFn K (.ref f_Ratio___abs__) = true)
    (i_Ratio___lt__ : PySem.W.findIn K (.ref C_Ratio) "__lt__" = some (some (.ref f_Ratio___lt__)))
    (j_Ratio___lt__ : PySem.W.isFn K (.ref f_Ratio___lt__) = true)
    (pi : PySem.W.findIn K (.ref C_Ratio) "is_endless" = some (some (.ref p_is_endless)))
    (pget : PySem.W.specialIn K (.ref p_is_endless) "__get__" = some (some (.builtin "property.__get__")))
    (ptk : PySem.W.takesIn K (.ref p_is_endless) = some true)
    (prec : PySem.W.recIn K p_is_endless "property" = some (.ref f_Ratio_is_endless :: rest_p))
    (sty : PySem.W.typeIn K (.ref C_Ratio) = some mc_Ratio)
    (srd : PySem.W.readsIn K C_Ratio mc_Ratio = true)
    (sga : PySem.W.specialIn K (.ref C_Ratio) "__getattribute__" = some (some (.builtin "type.__getattribute__")))
    (sat : PySem.W.findCls K (.ref C_Ratio) mc_Ratio "of" = some (.get (.builtin "staticmethod.__get__") (.ref p_of) .none (.ref C_Ratio)))
    (src : PySem.W.recIn K p_of "staticmethod" = some (.ref f_Ratio_of :: rest_s))
    (skp : PySem.W.keepIn K (.ref f_Ratio_of) = true)
    (sf : PySem.W.selfFirst K C_Ratio = true)
    (sub1 : PySem.W.subIn K (.type "int") (.ref C_Ratio) = some false)
    (sub2 : PySem.W.subIn K (.ref C_Ratio) (.type "int") = some false)
    (n1 : PySem.W.notFirst K C_Ratio (.type "int") = true)
    (n2 : PySem.W.notFirst K C_Ratio (.ref C_Ratio) = true)
    (mro2 : PySem.W.clsIn K C_Ratio = some cdR)
    (mro3 : (cdR.mro == [.ref C_Ratio, .type "object"]) = true)
    (t1_add : PySem.W.findIn K (.type "int") "__add__" = some (some (.builtin "int.__add__")))
    (t2_add : PySem.W.findIn K (.type "int") "__radd__" = some (some (.builtin "int.__radd__")))
    (u1_add : PySem.W.findIn K (.ref C_Ratio) "__iadd__" = some none)
    (u2_add : PySem.W.findIn K (.type "object") "__iadd__" = some none)
    (u3_add : PySem.W.findIn K (.type "int") "__iadd__" = some none)
    (t1_sub : PySem.W.findIn K (.type "int") "__sub__" = some (some (.builtin "int.__sub__")))
    (t2_sub : PySem.W.findIn K (.type "int") "__rsub__" = some (some (.builtin "int.__rsub__")))
    (u1_sub : PySem.W.findIn K (.ref C_Ratio) "__isub__" = some none)
    (u2_sub : PySem.W.findIn K (.type "object") "__isub__" = some none)
    (u3_sub : PySem.W.findIn K (.type "int") "__isub__" = some none)
    (t1_mul : PySem.W.findIn K (.type "int") "__mul__" = some (some (.builtin "int.__mul__")))
    (t2_mul : PySem.W.findIn K (.type "int") "__rmul__" = some (some (.builtin "int.__rmul__")))
    (u1_mul : PySem.W.findIn K (.ref C_Ratio) "__imul__" = some none)
    (u2_mul : PySem.W.findIn K (.type "object") "__imul__" = some none)
    (u3_mul : PySem.W.findIn K (.type "int") "__imul__" = some none)
    (l_Ratio_of : K.lookup f_Ratio_of = some ⟨oc_Ratio_of, od_Ratio_of, .func (PySem.W.fnOf "of" "Ratio.of" (defArgs s_Ratio_of) (defBody s_Ratio_of) (defScope s_Ratio_of) .none kV_Ratio_of doc_Ratio_of pm_Ratio_of an_Ratio_of cd_Ratio_of ct_Ratio_of), sl_Ratio_of⟩)
    (c_Ratio_of : PySem.W.codeIn K cd_Ratio_of "Ratio.of" = true)
    (k_Ratio_of : PySem.W.keepIn K (.ref f_Ratio_of) = true)
    (l_Ratio_is_endless : K.lookup f_Ratio_is_endless = some ⟨oc_Ratio_is_endless, od_Ratio_is_endless, .func (PySem.W.fnOf "is_endless" "Ratio.is_endless" (defArgs s_Ratio_is_endless) (defBody s_Ratio_is_endless) (defScope s_Ratio_is_endless) .none kV_Ratio_is_endless doc_Ratio_is_endless pm_Ratio_is_endless an_Ratio_is_endless cd_Ratio_is_endless ct_Ratio_is_endless), sl_Ratio_is_endless⟩)
    (c_Ratio_is_endless : PySem.W.codeIn K cd_Ratio_is_endless "Ratio.is_endless" = true)
    (k_Ratio_is_endless : PySem.W.keepIn K (.ref f_Ratio_is_endless) = true)
    (l_Ratio___add__ : K.lookup f_Ratio___add__ = some ⟨oc_Ratio___add__, od_Ratio___add__, .func (PySem.W.fnOf "__add__" "Ratio.__add__" (defArgs s_Ratio___add__) (defBody s_Ratio___add__) (defScope s_Ratio___add__) .none kV_Ratio___add__ doc_Ratio___add__ pm_Ratio___add__ an_Ratio___add__ cd_Ratio___add__ ct_Ratio___add__), sl_Ratio___add__⟩)
    (c_Ratio___add__ : PySem.W.codeIn K cd_Ratio___add__ "Ratio.__add__" = true)
    (k_Ratio___add__ : PySem.W.keepIn K (.ref f_Ratio___add__) = true)
    (l_Ratio___radd__ : K.lookup f_Ratio___radd__ = some ⟨oc_Ratio___radd__, od_Ratio___radd__, .func (PySem.W.fnOf "__radd__" "Ratio.__radd__" (defArgs s_Ratio___radd__) (defBody s_Ratio___radd__) (defScope s_Ratio___radd__) .none kV_Ratio___radd__ doc_Ratio___radd__ pm_Ratio___radd__ an_Ratio___radd__ cd_Ratio___radd__ ct_Ratio___radd__), sl_Ratio___radd__⟩)
    (c_Ratio___radd__ : PySem.W.codeIn K cd_Ratio___radd__ "Ratio.__radd__" = true)
    (k_Ratio___radd__ : PySem.W.keepIn K (.ref f_Ratio___radd__) = true)
    (l_Ratio___sub__ : K.lookup f_Ratio___sub__ = some ⟨oc_Ratio___sub__, od_Ratio___sub__, .func (PySem.W.fnOf "__sub__" "Ratio.__sub__" (defArgs s_Ratio___sub__) (defBody s_Ratio___sub__) (defScope s_Ratio___sub__) .none kV_Ratio___sub__ doc_Ratio___sub__ pm_Ratio___sub__ an_Ratio___sub__ cd_Ratio___sub__ ct_Ratio___sub__), sl_Ratio___sub__⟩)
    (c_Ratio___sub__ : PySem.W.codeIn K cd_Ratio___sub__ "Ratio.__sub__" = true)
    (k_Ratio___sub__ : PySem.W.keepIn K (.ref f_Ratio___sub__) = true)
    (l_Ratio___rsub__ : K.lookup f_Ratio___rsub__ = some ⟨oc_Ratio___rsub__, od_Ratio___rsub__, .func (PySem.W.fnOf "__rsub__" "Ratio.__rsub__" (defArgs s_Ratio___rsub__) (defBody s_Ratio___rsub__) (defScope s_Ratio___rsub__) .none kV_Ratio___rsub__ doc_Ratio___rsub__ pm_Ratio___rsub__ an_Ratio___rsub__ cd_Ratio___rsub__ ct_Ratio___rsub__), sl_Ratio___rsub__⟩)
    (c_Ratio___rsub__ : PySem.W.codeIn K cd_Ratio___rsub__ "Ratio.__rsub__" = true)
    (k_Ratio___rsub__ : PySem.W.keepIn K (.ref f_Ratio___rsub__) = true)
    (l_Ratio___mul__ : K.lookup f_Ratio___mul__ = some ⟨oc_Ratio___mul__, od_Ratio___mul__, .func (PySem.W.fnOf "__mul__" "Ratio.__mul__" (defArgs s_Ratio___mul__) (defBody s_Ratio___mul__) (defScope s_Ratio___mul__) .none kV_Ratio___mul__ doc_Ratio___mul__ pm_Ratio___mul__ an_Ratio___mul__ cd_Ratio___mul__ ct_Ratio___mul__), sl_Ratio___mul__⟩)
    (c_Ratio___mul__ : PySem.W.codeIn K cd_Ratio___mul__ "Ratio.__mul__" = true)
    (k_Ratio___mul__ : PySem.W.keepIn K (.ref f_Ratio___mul__) = true)
    (l_Ratio___rmul__ : K.lookup f_Ratio___rmul__ = some ⟨oc_Ratio___rmul__, od_Ratio___rmul__, .func (PySem.W.fnOf "__rmul__" "Ratio.__rmul__" (defArgs s_Ratio___rmul__) (defBody s_Ratio___rmul__) (defScope s_Ratio___rmul__) .none kV_Ratio___rmul__ doc_Ratio___rmul__ pm_Ratio___rmul__ an_Ratio___rmul__ cd_Ratio___rmul__ ct_Ratio___rmul__), sl_Ratio___rmul__⟩)
    (c_Ratio___rmul__ : PySem.W.codeIn K cd_Ratio___rmul__ "Ratio.__rmul__" = true)
    (k_Ratio___rmul__ : PySem.W.keepIn K (.ref f_Ratio___rmul__) = true)
    (l_Ratio___neg__ : K.lookup f_Ratio___neg__ = some ⟨oc_Ratio___neg__, od_Ratio___neg__, .func (PySem.W.fnOf "__neg__" "Ratio.__neg__" (defArgs s_Ratio___neg__) (defBody s_Ratio___neg__) (defScope s_Ratio___neg__) .none kV_Ratio___neg__ doc_Ratio___neg__ pm_Ratio___neg__ an_Ratio___neg__ cd_Ratio___neg__ ct_Ratio___neg__), sl_Ratio___neg__⟩)
    (c_Ratio___neg__ : PySem.W.codeIn K cd_Ratio___neg__ "Ratio.__neg__" = true)
    (k_Ratio___neg__ : PySem.W.keepIn K (.ref f_Ratio___neg__) = true)
    (l_Ratio___abs__ : K.lookup f_Ratio___abs__ = some ⟨oc_Ratio___abs__, od_Ratio___abs__, .func (PySem.W.fnOf "__abs__" "Ratio.__abs__" (defArgs s_Ratio___abs__) (defBody s_Ratio___abs__) (defScope s_Ratio___abs__) .none kV_Ratio___abs__ doc_Ratio___abs__ pm_Ratio___abs__ an_Ratio___abs__ cd_Ratio___abs__ ct_Ratio___abs__), sl_Ratio___abs__⟩)
    (c_Ratio___abs__ : PySem.W.codeIn K cd_Ratio___abs__ "Ratio.__abs__" = true)
    (k_Ratio___abs__ : PySem.W.keepIn K (.ref f_Ratio___abs__) = true)
    (l_Ratio___lt__ : K.lookup f_Ratio___lt__ = some ⟨oc_Ratio___lt__, od_Ratio___lt__, .func (PySem.W.fnOf "__lt__" "Ratio.__lt__" (defArgs s_Ratio___lt__) (defBody s_Ratio___lt__) (defScope s_Ratio___lt__) .none kV_Ratio___lt__ doc_Ratio___lt__ pm_Ratio___lt__ an_Ratio___lt__ cd_Ratio___lt__ ct_Ratio___lt__), sl_Ratio___lt__⟩)
    (c_Ratio___lt__ : PySem.W.codeIn K cd_Ratio___lt__ "Ratio.__lt__" = true)
    (k_Ratio___lt__ : PySem.W.keepIn K (.ref f_Ratio___lt__) = true)
    (a_is_int : PySem.W.nsIn K mainGlobals "is_int" = some (some (.ref f_is_int)))
    (l_is_int : K.lookup f_is_int = some ⟨oc_is_int, od_is_int, .func (PySem.W.fnOf "is_int" "is_int" (defArgs s_is_int) (defBody s_is_int) (defScope s_is_int) .none kV_is_int doc_is_int pm_is_int an_is_int cd_is_int ct_is_int), sl_is_int⟩)
    (c_is_int : PySem.W.codeIn K cd_is_int "is_int" = true)
    (k_is_int : PySem.W.keepIn K (.ref f_is_int) = true)
    (a__law_pen : PySem.W.nsIn K mainGlobals "_law_pen" = some (some (.ref f__law_pen)))
    (l__law_pen : K.lookup f__law_pen = some ⟨oc__law_pen, od__law_pen, .func (PySem.W.fnOf "_law_pen" "_law_pen" (defArgs s__law_pen) (defBody s__law_pen) (defScope s__law_pen) .none kV__law_pen doc__law_pen pm__law_pen an__law_pen cd__law_pen ct__law_pen), sl__law_pen⟩)
    (c__law_pen : PySem.W.codeIn K cd__law_pen "_law_pen" = true)
    (k__law_pen : PySem.W.keepIn K (.ref f__law_pen) = true)
    (a__law_draw : PySem.W.nsIn K mainGlobals "_law_draw" = some (some (.ref f__law_draw)))
    (l__law_draw : K.lookup f__law_draw = some ⟨oc__law_draw, od__law_draw, .func (PySem.W.fnOf "_law_draw" "_law_draw" (defArgs s__law_draw) (defBody s__law_draw) (defScope s__law_draw) .none kV__law_draw doc__law_draw pm__law_draw an__law_draw cd__law_draw ct__law_draw), sl__law_draw⟩)
    (c__law_draw : PySem.W.codeIn K cd__law_draw "_law_draw" = true)
    (k__law_draw : PySem.W.keepIn K (.ref f__law_draw) = true)
    (a__law_pick : PySem.W.nsIn K mainGlobals "_law_pick" = some (some (.ref f__law_pick)))
    (l__law_pick : K.lookup f__law_pick = some ⟨oc__law_pick, od__law_pick, .func (PySem.W.fnOf "_law_pick" "_law_pick" (defArgs s__law_pick) (defBody s__law_pick) (defScope s__law_pick) .none kV__law_pick doc__law_pick pm__law_pick an__law_pick cd__law_pick ct__law_pick), sl__law_pick⟩)
    (c__law_pick : PySem.W.codeIn K cd__law_pick "_law_pick" = true)
    (k__law_pick : PySem.W.keepIn K (.ref f__law_pick) = true)
    (a__law_low : PySem.W.nsIn K mainGlobals "_law_low" = some (some (.ref f__law_low)))
    (l__law_low : K.lookup f__law_low = some ⟨oc__law_low, od__law_low, .func (PySem.W.fnOf "_law_low" "_law_low" (defArgs s__law_low) (defBody s__law_low) (defScope s__law_low) .none kV__law_low doc__law_low pm__law_low an__law_low cd__law_low ct__law_low), sl__law_low⟩)
    (c__law_low : PySem.W.codeIn K cd__law_low "_law_low" = true)
    (k__law_low : PySem.W.keepIn K (.ref f__law_low) = true)
    (a__law_is : PySem.W.nsIn K mainGlobals "_law_is" = some (some (.ref f__law_is)))
    (l__law_is : K.lookup f__law_is = some ⟨oc__law_is, od__law_is, .func (PySem.W.fnOf "_law_is" "_law_is" (defArgs s__law_is) (defBody s__law_is) (defScope s__law_is) .none kV__law_is doc__law_is pm__law_is an__law_is cd__law_is ct__law_is), sl__law_is⟩)
    (c__law_is : PySem.W.codeIn K cd__law_is "_law_is" = true)
    (k__law_is : PySem.W.keepIn K (.ref f__law_is) = true)
    (a__law_made : PySem.W.nsIn K mainGlobals "_law_made" = some (some (.ref f__law_made)))
    (l__law_made : K.lookup f__law_made = some ⟨oc__law_made, od__law_made, .func (PySem.W.fnOf "_law_made" "_law_made" (defArgs s__law_made) (defBody s__law_made) (defScope s__law_made) .none kV__law_made doc__law_made pm__law_made an__law_made cd__law_made ct__law_made), sl__law_made⟩)
    (c__law_made : PySem.W.codeIn K cd__law_made "_law_made" = true)
    (k__law_made : PySem.W.keepIn K (.ref f__law_made) = true)
    (a__law_fraction : PySem.W.nsIn K mainGlobals "_law_fraction" = some (some (.ref f__law_fraction)))
    (l__law_fraction : K.lookup f__law_fraction = some ⟨oc__law_fraction, od__law_fraction, .func (PySem.W.fnOf "_law_fraction" "_law_fraction" (defArgs s__law_fraction) (defBody s__law_fraction) (defScope s__law_fraction) .none kV__law_fraction doc__law_fraction pm__law_fraction an__law_fraction cd__law_fraction ct__law_fraction), sl__law_fraction⟩)
    (c__law_fraction : PySem.W.codeIn K cd__law_fraction "_law_fraction" = true)
    (k__law_fraction : PySem.W.keepIn K (.ref f__law_fraction) = true)
    (a__law_results : PySem.W.nsIn K mainGlobals "_law_results" = some (some (.ref f__law_results)))
    (l__law_results : K.lookup f__law_results = some ⟨oc__law_results, od__law_results, .func (PySem.W.fnOf "_law_results" "_law_results" (defArgs s__law_results) (defBody s__law_results) (defScope s__law_results) .none kV__law_results doc__law_results pm__law_results an__law_results cd__law_results ct__law_results), sl__law_results⟩)
    (c__law_results : PySem.W.codeIn K cd__law_results "_law_results" = true)
    (k__law_results : PySem.W.keepIn K (.ref f__law_results) = true)
    (a__law_are : PySem.W.nsIn K mainGlobals "_law_are" = some (some (.ref f__law_are)))
    (l__law_are : K.lookup f__law_are = some ⟨oc__law_are, od__law_are, .func (PySem.W.fnOf "_law_are" "_law_are" (defArgs s__law_are) (defBody s__law_are) (defScope s__law_are) .none kV__law_are doc__law_are pm__law_are an__law_are cd__law_are ct__law_are), sl__law_are⟩)
    (c__law_are : PySem.W.codeIn K cd__law_are "_law_are" = true)
    (k__law_are : PySem.W.keepIn K (.ref f__law_are) = true)
    (a__law_in_place : PySem.W.nsIn K mainGlobals "_law_in_place" = some (some (.ref f__law_in_place)))
    (l__law_in_place : K.lookup f__law_in_place = some ⟨oc__law_in_place, od__law_in_place, .func (PySem.W.fnOf "_law_in_place" "_law_in_place" (defArgs s__law_in_place) (defBody s__law_in_place) (defScope s__law_in_place) .none kV__law_in_place doc__law_in_place pm__law_in_place an__law_in_place cd__law_in_place ct__law_in_place), sl__law_in_place⟩)
    (c__law_in_place : PySem.W.codeIn K cd__law_in_place "_law_in_place" = true)
    (k__law_in_place : PySem.W.keepIn K (.ref f__law_in_place) = true)
    (a__law_pair_right : PySem.W.nsIn K mainGlobals "_law_pair_right" = some (some (.ref f__law_pair_right)))
    (l__law_pair_right : K.lookup f__law_pair_right = some ⟨oc__law_pair_right, od__law_pair_right, .func (PySem.W.fnOf "_law_pair_right" "_law_pair_right" (defArgs s__law_pair_right) (defBody s__law_pair_right) (defScope s__law_pair_right) .none kV__law_pair_right doc__law_pair_right pm__law_pair_right an__law_pair_right cd__law_pair_right ct__law_pair_right), sl__law_pair_right⟩)
    (c__law_pair_right : PySem.W.codeIn K cd__law_pair_right "_law_pair_right" = true)
    (k__law_pair_right : PySem.W.keepIn K (.ref f__law_pair_right) = true)
    (a__law_alone_right : PySem.W.nsIn K mainGlobals "_law_alone_right" = some (some (.ref f__law_alone_right)))
    (l__law_alone_right : K.lookup f__law_alone_right = some ⟨oc__law_alone_right, od__law_alone_right, .func (PySem.W.fnOf "_law_alone_right" "_law_alone_right" (defArgs s__law_alone_right) (defBody s__law_alone_right) (defScope s__law_alone_right) .none kV__law_alone_right doc__law_alone_right pm__law_alone_right an__law_alone_right cd__law_alone_right ct__law_alone_right), sl__law_alone_right⟩)
    (c__law_alone_right : PySem.W.codeIn K cd__law_alone_right "_law_alone_right" = true)
    (k__law_alone_right : PySem.W.keepIn K (.ref f__law_alone_right) = true)
    (a_law : PySem.W.nsIn K mainGlobals "law" = some (some (.ref f_law)))
    (l_law : K.lookup f_law = some ⟨oc_law, od_law, .func (PySem.W.fnOf "law" "law" (defArgs s_law) (defBody s_law) (defScope s_law) .none kV_law doc_law pm_law an_law cd_law ct_law), sl_law⟩)
    (c_law : PySem.W.codeIn K cd_law "law" = true)
    (k_law : PySem.W.keepIn K (.ref f_law) = true)
    (z_int : PySem.W.nsIn K mainGlobals "int" = some none)
    (z_bool : PySem.W.nsIn K mainGlobals "bool" = some none)
    (z_isinstance : PySem.W.nsIn K mainGlobals "isinstance" = some none)
    (z_list : PySem.W.nsIn K mainGlobals "list" = some none)
    (z_len : PySem.W.nsIn K mainGlobals "len" = some none)
    (z_abs : PySem.W.nsIn K mainGlobals "abs" = some none)
    (z_repr : PySem.W.nsIn K mainGlobals "repr" = some none)
    (z_range : PySem.W.nsIn K mainGlobals "range" = some none) :
    ∃ T : TX K mg, T.f_law = fa := by
  have e := hfa.symm.trans (PySem.W.mg_of X G a_law)
  have e2 : f_law = fa := by cases e; rfl
  subst e2
  have FD : FunD K "__init__" "Ratio.__init__" (defArgs s_Ratio___init__) (defBody s_Ratio___init__) (defScope s_Ratio___init__) [.int 1] [] f_Ratio___init__ _ := ⟨⟨_, _, _, _, _, _, _, _, _, _, rfl, l_Ratio___init__, c_Ratio___init__, .inr ⟨by decide, tD, _, [.int 1 tkD], nD, rfl, lD, rfl, .cons ⟨_, rfl⟩ .nil⟩, .inl rfl⟩, k_Ratio___init__⟩
  exact ⟨{
      b_int := PySem.W.mg_none_of X G z_int
      b_bool := PySem.W.mg_none_of X G z_bool
      b_isinstance := PySem.W.mg_none_of X G z_isinstance
      b_list := PySem.W.mg_none_of X G z_list
      b_len := PySem.W.mg_none_of X G z_len
      b_abs := PySem.W.mg_none_of X G z_abs
      b_repr := PySem.W.mg_none_of X G z_repr
      b_range := PySem.W.mg_none_of X G z_range
      f_is_int := f_is_int
      d_is_int := _
      F_is_int := fun_mk (st := s_is_int) l_is_int c_is_int k_is_int
      m_is_int := PySem.W.mg_of X G a_is_int
      f__law_pen := f__law_pen
      d__law_pen := _
      F__law_pen := fun_mk (st := s__law_pen) l__law_pen c__law_pen k__law_pen
      m__law_pen := PySem.W.mg_of X G a__law_pen
      f__law_draw := f__law_draw
      d__law_draw := _
      F__law_draw := fun_mk (st := s__law_draw) l__law_draw c__law_draw k__law_draw
      m__law_draw := PySem.W.mg_of X G a__law_draw
      f__law_pick := f__law_pick
      d__law_pick := _
      F__law_pick := fun_mk (st := s__law_pick) l__law_pick c__law_pick k__law_pick
      m__law_pick := PySem.W.mg_of X G a__law_pick
      f__law_low := f__law_low
      d__law_low := _
      F__law_low := fun_mk (st := s__law_low) l__law_low c__law_low k__law_low
      m__law_low := PySem.W.mg_of X G a__law_low
      f__law_is := f__law_is
      d__law_is := _
      F__law_is := fun_mk (st := s__law_is) l__law_is c__law_is k__law_is
      m__law_is := PySem.W.mg_of X G a__law_is
      f__law_made := f__law_made
      d__law_made := _
      F__law_made := fun_mk (st := s__law_made) l__law_made c__law_made k__law_made
      m__law_made := PySem.W.mg_of X G a__law_made
      f__law_fraction := f__law_fraction
      d__law_fraction := _
      F__law_fraction := fun_mk (st := s__law_fraction) l__law_fraction c__law_fraction k__law_fraction
      m__law_fraction := PySem.W.mg_of X G a__law_fraction
      f__law_results := f__law_results
      d__law_results := _
      F__law_results := fun_mk (st := s__law_results) l__law_results c__law_results k__law_results
      m__law_results := PySem.W.mg_of X G a__law_results
      f__law_are := f__law_are
      d__law_are := _
      F__law_are := fun_mk (st := s__law_are) l__law_are c__law_are k__law_are
      m__law_are := PySem.W.mg_of X G a__law_are
      f__law_in_place := f__law_in_place
      d__law_in_place := _
      F__law_in_place := fun_mk (st := s__law_in_place) l__law_in_place c__law_in_place k__law_in_place
      m__law_in_place := PySem.W.mg_of X G a__law_in_place
      f__law_pair_right := f__law_pair_right
      d__law_pair_right := _
      F__law_pair_right := fun_mk (st := s__law_pair_right) l__law_pair_right c__law_pair_right k__law_pair_right
      m__law_pair_right := PySem.W.mg_of X G a__law_pair_right
      f__law_alone_right := f__law_alone_right
      d__law_alone_right := _
      F__law_alone_right := fun_mk (st := s__law_alone_right) l__law_alone_right c__law_alone_right k__law_alone_right
      m__law_alone_right := PySem.W.mg_of X G a__law_alone_right
      f_law := f_law
      d_law := _
      F_law := fun_mk (st := s_law) l_law c_law k_law
      m_law := PySem.W.mg_of X G a_law
      C_Ratio := C_Ratio
      m_Ratio := PySem.W.mg_of X G aC_Ratio
      f_Ratio_of := f_Ratio_of
      d_Ratio_of := _
      F_Ratio_of := fun_mk (st := s_Ratio_of) l_Ratio_of c_Ratio_of k_Ratio_of
      f_Ratio_is_endless := f_Ratio_is_endless
      d_Ratio_is_endless := _
      F_Ratio_is_endless := fun_mk (st := s_Ratio_is_endless) l_Ratio_is_endless c_Ratio_is_endless k_Ratio_is_endless
      f_Ratio___add__ := f_Ratio___add__
      d_Ratio___add__ := _
      F_Ratio___add__ := fun_mk (st := s_Ratio___add__) l_Ratio___add__ c_Ratio___add__ k_Ratio___add__
      f_Ratio___radd__ := f_Ratio___radd__
      d_Ratio___radd__ := _
      F_Ratio___radd__ := fun_mk (st := s_Ratio___radd__) l_Ratio___radd__ c_Ratio___radd__ k_Ratio___radd__
      f_Ratio___sub__ := f_Ratio___sub__
      d_Ratio___sub__ := _
      F_Ratio___sub__ := fun_mk (st := s_Ratio___sub__) l_Ratio___sub__ c_Ratio___sub__ k_Ratio___sub__
      f_Ratio___rsub__ := f_Ratio___rsub__
      d_Ratio___rsub__ := _
      F_Ratio___rsub__ := fun_mk (st := s_Ratio___rsub__) l_Ratio___rsub__ c_Ratio___rsub__ k_Ratio___rsub__
      f_Ratio___mul__ := f_Ratio___mul__
      d_Ratio___mul__ := _
      F_Ratio___mul__ := fun_mk (st := s_Ratio___mul__) l_Ratio___mul__ c_Ratio___mul__ k_Ratio___mul__
      f_Ratio___rmul__ := f_Ratio___rmul__
      d_Ratio___rmul__ := _
      F_Ratio___rmul__ := fun_mk (st := s_Ratio___rmul__) l_Ratio___rmul__ c_Ratio___rmul__ k_Ratio___rmul__
      f_Ratio___neg__ := f_Ratio___neg__
      d_Ratio___neg__ := _
      F_Ratio___neg__ := fun_mk (st := s_Ratio___neg__) l_Ratio___neg__ c_Ratio___neg__ k_Ratio___neg__
      f_Ratio___abs__ := f_Ratio___abs__
      d_Ratio___abs__ := _
      F_Ratio___abs__ := fun_mk (st := s_Ratio___abs__) l_Ratio___abs__ c_Ratio___abs__ k_Ratio___abs__
      f_Ratio___lt__ := f_Ratio___lt__
      d_Ratio___lt__ := _
      F_Ratio___lt__ := fun_mk (st := s_Ratio___lt__) l_Ratio___lt__ c_Ratio___lt__ k_Ratio___lt__
      rc := ⟨⟨pg, hd, po, sa⟩, nT, nB, ca, cn, ct, cm, k0⟩
      m_gcd := PySem.W.mg_of X G gg
      f_Ratio___init__ := f_Ratio___init__
      d_Ratio___init__ := _
      F_Ratio___init__ := FD
      mk_Ratio := ⟨mkR1, i_Ratio___init__, j_Ratio___init__, mkR2⟩
      bd1 := bdOne FD
      bd2 := bdTwo FD
      p_is_endless := p_is_endless
      pr_is_endless := ⟨pi, pget, ptk, _, prec⟩
      mc_Ratio := mc_Ratio
      p_of := p_of
      st_of := ⟨sty, srd, sga, sat, ⟨_, src⟩, skp⟩
      op_add := ⟨sf, i_Ratio___add__, j_Ratio___add__, i_Ratio___radd__, .inr ⟨_, rfl⟩, t1_add, t2_add, sub1⟩
      rf_add := ⟨sf, i_Ratio___add__, i_Ratio___radd__, j_Ratio___radd__, t1_add, t2_add, rfl, sub2⟩
      ni_add := ⟨by rw [mro2]; exact mro3, u1_add, u2_add, u3_add⟩
      op_sub := ⟨sf, i_Ratio___sub__, j_Ratio___sub__, i_Ratio___rsub__, .inr ⟨_, rfl⟩, t1_sub, t2_sub, sub1⟩
      rf_sub := ⟨sf, i_Ratio___sub__, i_Ratio___rsub__, j_Ratio___rsub__, t1_sub, t2_sub, rfl, sub2⟩
      ni_sub := ⟨by rw [mro2]; exact mro3, u1_sub, u2_sub, u3_sub⟩
      op_mul := ⟨sf, i_Ratio___mul__, j_Ratio___mul__, i_Ratio___rmul__, .inr ⟨_, rfl⟩, t1_mul, t2_mul, sub1⟩
      rf_mul := ⟨sf, i_Ratio___mul__, i_Ratio___rmul__, j_Ratio___rmul__, t1_mul, t2_mul, rfl, sub2⟩
      ni_mul := ⟨by rw [mro2]; exact mro3, u1_mul, u2_mul, u3_mul⟩
      ng := ⟨i_Ratio___neg__, j_Ratio___neg__⟩
      ab := ⟨i_Ratio___abs__, j_Ratio___abs__⟩
      lt := ⟨i_Ratio___lt__, j_Ratio___lt__⟩
      n1 := n1
      n2 := n2 }, rfl⟩
theorem walk {l : PySem.W.OpenLaw} {qq : Program} {loose : List Str} {XP : (Str → Option Value) → Heap → Prop} {YP : World → Heap → Prop} {d : DefRec} {K : Params → PySem.W.Frag} (hn : l.most = some 63) (hdf : d.params.defaults = []) (hY : ∀ (w : World) (h : Heap), YP w h → (K w.params).In h)
    (F : ∀ (w : World) (mg : Str → Option Value) (fa : Addr) (h : Heap), (K w.params).In h → h.Ns mainGlobals mg → mg d.name = some (.ref fa) → ∃ T : TX (K w.params) mg, T.f_law = fa) : PySem.W.WalkO qq loose XP YP l.row.toRowW d [] (fun f vs => PySem.call f vs) := by
  refine walkG (n := 63) (k := 9) (g := spLaw) hn (by decide) hdf ⟨rfl, by decide, by decide⟩ hY (fun w mg fa h KX G hmg base _ _ => ?_) fun K H a ns hl hS => ⟨a, ns, rfl, hS, hl, fun _ => rfl⟩
  obtain ⟨T, rfl⟩ := F w mg fa h KX G hmg
  exact g_law T
end RR
open PySem PySem.W PyProof.Rows
set_option maxRecDepth 100000 in
set_option maxHeartbeats 0 in
theorem PySem.Challenge.cw_sixasone_k02_sums_and_products_holds : PySem.Challenge.rw_sixasone_k02_sums_and_products.Holds := by
  w_on; o_law; k_head; (case hw => w_witness2)
  k_fill
  refine RR.walk (l := PySem.Challenge.rw_sixasone_k02_sums_and_products) rfl rfl (fun w h Y => PySem.W.kIn_of Y) ?F
  case F =>
    intro w mg fa h KX G hmg
    refine' RR.build KX G hmg ?aC_Ratio ?i_Ratio___init__ ?j_Ratio___init__ ?l_Ratio___init__ ?c_Ratio___init__ ?k_Ratio___init__ ?lD ?mkR1 ?mkR2 ?pg ?hd ?po ?sa ?nT ?nB ?ca ?cn ?ct ?cm ?k0 ?gg ?i_Ratio___add__ ?j_Ratio___add__ ?i_Ratio___radd__ ?j_Ratio___radd__ ?i_Ratio___sub__ ?j_Ratio___sub__ ?i_Ratio___rsub__ ?j_Ratio___rsub__ ?i_Ratio___mul__ ?j_Ratio___mul__ ?i_Ratio___rmul__ ?j_Ratio___rmul__ ?i_Ratio___neg__ ?j_Ratio___neg__ ?i_Ratio___abs__ ?j_Ratio___abs__ ?i_Ratio___lt__ ?j_Ratio___lt__ ?pi ?pget ?ptk ?prec ?sty ?srd ?sga ?sat ?src ?skp ?sf ?sub1 ?sub2 ?n1 ?n2 ?mro2 ?mro3 ?t1_add ?t2_add ?u1_add ?u2_add ?u3_add ?t1_sub ?t2_sub ?u1_sub ?u2_sub ?u3_sub ?t1_mul ?t2_mul ?u1_mul ?u2_mul ?u3_mul ?l_Ratio_of ?c_Ratio_of ?k_Ratio_of ?l_Ratio_is_endless ?c_Ratio_is_endless ?k_Ratio_is_endless ?l_Ratio___add__ ?c_Ratio___add__ ?k_Ratio___add__ ?l_Ratio___radd__ ?c_Ratio___radd__ ?k_Ratio___radd__ ?l_Ratio___sub__ ?c_Ratio___sub__ ?k_Ratio___sub__ ?l_Ratio___rsub__ ?c_Ratio___rsub__ ?k_Ratio___rsub__ ?l_Ratio___mul__ ?c_Ratio___mul__ ?k_Ratio___mul__ ?l_Ratio___rmul__ ?c_Ratio___rmul__ ?k_Ratio___rmul__ ?l_Ratio___neg__ ?c_Ratio___neg__ ?k_Ratio___neg__ ?l_Ratio___abs__ ?c_Ratio___abs__ ?k_Ratio___abs__ ?l_Ratio___lt__ ?c_Ratio___lt__ ?k_Ratio___lt__ ?a_is_int ?l_is_int ?c_is_int ?k_is_int ?a__law_pen ?l__law_pen ?c__law_pen ?k__law_pen ?a__law_draw ?l__law_draw ?c__law_draw ?k__law_draw ?a__law_pick ?l__law_pick ?c__law_pick ?k__law_pick ?a__law_low ?l__law_low ?c__law_low ?k__law_low ?a__law_is ?l__law_is ?c__law_is ?k__law_is ?a__law_made ?l__law_made ?c__law_made ?k__law_made ?a__law_fraction ?l__law_fraction ?c__law_fraction ?k__law_fraction ?a__law_results ?l__law_results ?c__law_results ?k__law_results ?a__law_are ?l__law_are ?c__law_are ?k__law_are ?a__law_in_place ?l__law_in_place ?c__law_in_place ?k__law_in_place ?a__law_pair_right ?l__law_pair_right ?c__law_pair_right ?k__law_pair_right ?a__law_alone_right ?l__law_alone_right ?c__law_alone_right ?k__law_alone_right ?a_law ?l_law ?c_law ?k_law ?z_int ?z_bool ?z_isinstance ?z_list ?z_len ?z_abs ?z_repr ?z_range
    (case aC_Ratio => k_is)
    (case i_Ratio___init__ => k_is)
    (case j_Ratio___init__ => k_is)
    (case l_Ratio___init__ => k_is)
    (case c_Ratio___init__ => k_is)
    (case k_Ratio___init__ => k_is)
    (case lD => k_is)
    (case mkR1 => k_is)
    (case mkR2 => k_is)
    (case pg => k_is)
    (case hd => k_is)
    (case po => k_is)
    (case sa => k_is)
    (case nT => k_is)
    (case nB => k_is)
    (case ca => k_is)
    (case cn => k_is)
    (case ct => k_is)
    (case cm => k_is)
    (case k0 => kit_is)
    (case gg => k_is)
    (case i_Ratio___add__ => k_is)
    (case j_Ratio___add__ => k_is)
    (case i_Ratio___radd__ => k_is)
    (case j_Ratio___radd__ => k_is)
    (case i_Ratio___sub__ => k_is)
    (case j_Ratio___sub__ => k_is)
    (case i_Ratio___rsub__ => k_is)
    (case j_Ratio___rsub__ => k_is)
    (case i_Ratio___mul__ => k_is)
    (case j_Ratio___mul__ => k_is)
    (case i_Ratio___rmul__ => k_is)
    (case j_Ratio___rmul__ => k_is)
    (case i_Ratio___neg__ => k_is)
    (case j_Ratio___neg__ => k_is)
    (case i_Ratio___abs__ => k_is)
    (case j_Ratio___abs__ => k_is)
    (case i_Ratio___lt__ => k_is)
    (case j_Ratio___lt__ => k_is)
    (case pi => k_is)
    (case pget => k_is)
    (case ptk => k_is)
    (case prec => k_is)
    (case sty => k_is)
    (case srd => k_is)
    (case sga => k_is)
    (case sat => k_is)
    (case src => k_is)
    (case skp => k_is)
    (case sf => k_is)
    (case sub1 => k_is)
    (case sub2 => k_is)
    (case n1 => k_is)
    (case n2 => k_is)
    (case mro2 => k_is)
    (case mro3 => rfl)
    (case t1_add => k_is)
    (case t2_add => k_is)
    (case u1_add => k_is)
    (case u2_add => k_is)
    (case u3_add => k_is)
    (case t1_sub => k_is)
    (case t2_sub => k_is)
    (case u1_sub => k_is)
    (case u2_sub => k_is)
    (case u3_sub => k_is)
    (case t1_mul => k_is)
    (case t2_mul => k_is)
    (case u1_mul => k_is)
    (case u2_mul => k_is)
    (case u3_mul => k_is)
    (case l_Ratio_of => k_is)
    (case c_Ratio_of => k_is)
    (case k_Ratio_of => k_is)
    (case l_Ratio_is_endless => k_is)
    (case c_Ratio_is_endless => k_is)
    (case k_Ratio_is_endless => k_is)
    (case l_Ratio___add__ => k_is)
    (case c_Ratio___add__ => k_is)
    (case k_Ratio___add__ => k_is)
    (case l_Ratio___radd__ => k_is)
    (case c_Ratio___radd__ => k_is)
    (case k_Ratio___radd__ => k_is)
    (case l_Ratio___sub__ => k_is)
    (case c_Ratio___sub__ => k_is)
    (case k_Ratio___sub__ => k_is)
    (case l_Ratio___rsub__ => k_is)
    (case c_Ratio___rsub__ => k_is)
    (case k_Ratio___rsub__ => k_is)
    (case l_Ratio___mul__ => k_is)
    (case c_Ratio___mul__ => k_is)
    (case k_Ratio___mul__ => k_is)
    (case l_Ratio___rmul__ => k_is)
    (case c_Ratio___rmul__ => k_is)
    (case k_Ratio___rmul__ => k_is)
    (case l_Ratio___neg__ => k_is)
    (case c_Ratio___neg__ => k_is)
    (case k_Ratio___neg__ => k_is)
    (case l_Ratio___abs__ => k_is)
    (case c_Ratio___abs__ => k_is)
    (case k_Ratio___abs__ => k_is)
    (case l_Ratio___lt__ => k_is)
    (case c_Ratio___lt__ => k_is)
    (case k_Ratio___lt__ => k_is)
    (case a_is_int => k_is)
    (case l_is_int => k_is)
    (case c_is_int => k_is)
    (case k_is_int => k_is)
    (case a__law_pen => k_is)
    (case l__law_pen => k_is)
    (case c__law_pen => k_is)
    (case k__law_pen => k_is)
    (case a__law_draw => k_is)
    (case l__law_draw => k_is)
    (case c__law_draw => k_is)
    (case k__law_draw => k_is)
    (case a__law_pick => k_is)
    (case l__law_pick => k_is)
    (case c__law_pick => k_is)
    (case k__law_pick => k_is)
    (case a__law_low => k_is)
    (case l__law_low => k_is)
    (case c__law_low => k_is)
    (case k__law_low => k_is)
    (case a__law_is => k_is)
    (case l__law_is => k_is)
    (case c__law_is => k_is)
    (case k__law_is => k_is)
    (case a__law_made => k_is)
    (case l__law_made => k_is)
    (case c__law_made => k_is)
    (case k__law_made => k_is)
    (case a__law_fraction => k_is)
    (case l__law_fraction => k_is)
    (case c__law_fraction => k_is)
    (case k__law_fraction => k_is)
    (case a__law_results => k_is)
    (case l__law_results => k_is)
    (case c__law_results => k_is)
    (case k__law_results => k_is)
    (case a__law_are => k_is)
    (case l__law_are => k_is)
    (case c__law_are => k_is)
    (case k__law_are => k_is)
    (case a__law_in_place => k_is)
    (case l__law_in_place => k_is)
    (case c__law_in_place => k_is)
    (case k__law_in_place => k_is)
    (case a__law_pair_right => k_is)
    (case l__law_pair_right => k_is)
    (case c__law_pair_right => k_is)
    (case k__law_pair_right => k_is)
    (case a__law_alone_right => k_is)
    (case l__law_alone_right => k_is)
    (case c__law_alone_right => k_is)
    (case k__law_alone_right => k_is)
    (case a_law => k_is)
    (case l_law => k_is)
    (case c_law => k_is)
    (case k_law => k_is)
    (case z_int => k_is)
    (case z_bool => k_is)
    (case z_isinstance => k_is)
    (case z_list => k_is)
    (case z_len => k_is)
    (case z_abs => k_is)
    (case z_repr => k_is)
    (case z_range => k_is)
