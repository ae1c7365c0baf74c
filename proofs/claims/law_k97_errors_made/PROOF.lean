import PyProof.Rows.All
import Wide.All
import OpenK.AllK
import Wide.FinOn
import HandS.Base
import HandS.Call
import HandS.List
import HandS.Ends
import HandS.Words
import HandS.More
import KE.KOpsOwn
import HandS.IsInst
import HandS.Property
import HandS.Gcd
import HandS.Wide
import HandS.ClsMeth
import HandS.Defaults
import PyProof.SeqRoads
import PyProof.AutoListH
import PyProof.FactsAll.int
import PyProof.Rows.RuleN_abs
import PyProof.Rows.ReprR
import PyProof.FitsInt
import HandS.ForMost
import HandS.Style
import HandS.Lambda
import HandS.EndTab
import HandS.ExcIs
import HandS.ExcOwn
import HandS.ExcValue
import HandS.SetFor
import HandS.WordsExc
import HandS.MakeKw
import HandS.RaiseMore
import KE.KCallOwn
import KE.KFmtOwn
import KE.RegKCallOwn
import KE.KExcIs
import PyProof.InstEq
import HandS.SlotsOwn
import HandS.FStr
import HandS.Small
import PyProof.ReprLen
import PyProof.StrLawsRepr
import PyProof.Rows.ReprOcc
import PyProof.Conv_bool
import PyProof.ReprReads
import HandS.Dict
import HandS.Walk
import PySem.Challenge.RW_sixasone_k97_errors_made
set_option Elab.async false
set_option linter.all false
set_option maxRecDepth 100000
set_option maxHeartbeats 2000000
namespace RR
open PySem PySem.Spec PyProof.Rows L2

/-- no display of an object is under way -/
abbrev Free (A : Around) : Prop := A.guards = some []
theorem free_deeper {A : Around} (env : Env) (h : Free A) : Free (A.deeper env) := h

/-- a def of the text keeps its promise wherever no display is under way; C: how an error lies behind the call -/
def FnG (P : Program) (w : World) (K : PySem.W.Frag) (mg : Str → Option Value) (base : Heap) (C : CXT) (k : Nat) (f : Addr) (g : Sp) : Prop :=
  ∀ (A : Around) (out : List Env) (s : Shared) (H : Hp) (us : List Value) (vs : List V) (Q : VK) (E : XK), Room k A → Free A → Env0 P w K mg base A out s H → Vals vs us → g vs H Q E →
    codeAny (model P w) A (.call (.ref f) ⟨us, []⟩) (CR C out P w H s Q E) s

section
variable {P : Program} {w : World} {K : PySem.W.Frag} {mg : Str → Option Value} {base : Heap} {C : CXT} {j k : Nat} {f : Addr} {g g' : Sp}
theorem FnG.mono (F : FnG P w K mg base C j f g) (h : j ≤ k) : FnG P w K mg base C k f g := fun A o s H us vs Q E hr => F A o s H us vs Q E (hr.mono h)
theorem FnG.of (F : FnR P w K mg base C k f g) : FnG P w K mg base C k f g := fun A o s H us vs Q E hr _ e0 r h => F A o s H us vs Q E hr e0 r h
/-- every argument is given -/
theorem rawAll {fd : FuncData} {ps : List Str} (F : FnOk P w K mg base C k f fd ps g) (hb : Binds K fd ps []) : FnR P w K mg base C k f g :=
  (F.raw hb .nil).imp fun vs H Q E h => by show g (vs ++ []) H Q E; rw [List.append_nil]; exact h

/-- a def by its body, where no display is under way -/
theorem okGX {x qual : Str} {st : Stmt} {fd : FuncData} {N ps : List Str} (F : Fun K x qual st f fd) (S : FnScope N ps (defScope st)) (hb : Binds K fd ps []) (len : ∀ vs H Q E, g vs H Q E → vs.length = ps.length)
    (body : ∀ (cdv : Value) (A : Around) (out : List Env) (s : Shared) (H : Hp) (vs : List V) (Q : VK) (E : XK), Room k (A.deeper (envOfC qual (defScope st) s.heap.objs.size f cdv)) → Free (A.deeper (envOfC qual (defScope st) s.heap.objs.size f cdv)) → g vs H Q E →
      ∃ t, PSs (cxOf C P w K mg base N qual (defScope st) f cdv A out s H E) (defBody st) t ∧ t { nx := fun _ H' => Q .non H', rt := Q } (start N vs) H) : FnG P w K mg base C (k + 1) f g := by
  obtain ⟨oc, od, kV, doc, pm, an, cdv, ct, osl, rfl, lk, hcd⟩ := F.ex
  intro A out s H us vs Q E hr hfree e0 r hg
  have hl : vs.length = ps.length := len _ _ _ _ hg
  have kin : K.In s.heap := e0.mod.kin.keeps fun b o e => (e0.bs b o e).1
  have lim : s.heap.NoLimit := e0.mod.nolimit.keeps fun b o e => (e0.bs b o e).1
  have hu : (us ++ []).length = ps.length := by rw [List.append_nil, ← r.length]; exact hl
  have bind0 := hb s us kin hu
  rw [List.append_nil] at bind0
  have hkind : ∀ y ∈ ps.zip us, (defScope st).names.lookup y.1 = some .local ∨ ((defScope st).names.lookup y.1 = some .cell ∧ ((cellsFrom (s.heap.objs.size + 1) (defScope st).names []).lookup y.1).isSome = true) := by
    rintro ⟨n, v⟩ hy
    rcases S.par n (List.of_mem_zip hy).1 with q | q
    · exact .inl q
    · exact .inr ⟨q, PySem.W.cellsFrom_some _ _ _ (.inl q)⟩
  refine codeAny_call_function hr.depth (kin _ _ lk) rfl S.co S.gen rfl (PySem.W.codeRec_of kin hcd) (bind0 _ _ _ _ ?_)
  refine wpAny_newFunctionEnv_cells S.kind hkind fun env he s1 xx => ?_
  subst he
  refine ⟨lim.keeps xx.toInCall.keep, codeAny_func ?_⟩
  obtain ⟨t, ht, hq⟩ := body cdv A out s H vs Q E (hr.deeper _) (free_deeper _ hfree) hg
  have I : Inv (cxOf C P w K mg base N qual (defScope st) f cdv A out s H E) [] (start N vs) H s1 := inv_start S hr.hd e0 hl r xx
  refine wpAny_mono (ht.run [] s1 (start N vs) H _ I hq) (fun fl s' hs => ?_) fun e s' hs => hs
  cases fl with
  | ret u =>
    obtain ⟨v, σ', H', J, rv, q⟩ := hs
    exact ⟨v, H', J.os, J.bare, J.base, J.hok, rv, q⟩
  | next =>
    obtain ⟨σ', H', J, q⟩ := hs
    exact ⟨V.non, H', J.os, J.bare, J.base, J.hok, rfl, q⟩
  | brk =>
    obtain ⟨_, _, _, q⟩ := hs
    exact q.elim
  | cont =>
    obtain ⟨_, _, _, q⟩ := hs
    exact q.elim
/-- the same for a def that nothing leaves -/
theorem okG {x qual : Str} {st : Stmt} {fd : FuncData} {N ps : List Str} (F : Fun K x qual st f fd) (S : FnScope N ps (defScope st)) (hb : Binds K fd ps []) (len : ∀ vs H Q E, g vs H Q E → vs.length = ps.length)
    (body : ∀ (cdv : Value) (A : Around) (out : List Env) (s : Shared) (H : Hp) (vs : List V) (Q : VK) (E : XK), Room k (A.deeper (envOfC qual (defScope st) s.heap.objs.size f cdv)) → Free (A.deeper (envOfC qual (defScope st) s.heap.objs.size f cdv)) → g vs H Q E →
      ∃ t, PSs (cxOf CX0 P w K mg base N qual (defScope st) f cdv A out s H E).nox (defBody st) t ∧ t { nx := fun _ H' => Q .non H', rt := Q } (start N vs) H) : FnG P w K mg base CX0 (k + 1) f g :=
  okGX F S hb len fun cdv A out s H vs Q E h1 h2 h3 => by
    obtain ⟨t, a, b⟩ := body cdv A out s H vs Q E h1 h2 h3
    exact ⟨t, a.nox, b⟩
end

section
variable {X : Cx} {C : CXT} {pins : List (Addr × Obj)} {σ : L2.St} {H : Hp} {s : Shared} {k : Nat} {f : Addr} {g : Sp} {E : XK} {x : Str} {p pos : Pos} {e : Expr} {es : List Expr} {t : TA}
/-- how a callee's end is read by its caller -/
theorem after0 {A : Around} {Q : VK} {us : List Value} {fa : Addr} (hx : Passes C X E) (I : Inv X pins σ H s) (h : codeAny (model X.prog X.w) A (.call (.ref fa) ⟨us, []⟩) (CR C X.stack X.prog X.w H s Q E) s) :
    codeAny (model X.prog X.w) A (.call (.ref fa) ⟨us, []⟩) (fun r s' => match r with | .ok (.ret v) => EP X pins σ Q v s' | .ok _ => False | .error e => X.xe e s') s :=
  codeAny_mono h fun r s' hq => match r, hq with
    | .ok (.ret _), z => I.after z
    | .ok .next, z => z.elim
    | .ok .brk, z => z.elim
    | .ok .cont, z => z.elim
    | .error _, z => hx _ _ _ _ _ _ I z
theorem run_G {Q : VK} {us : List Value} {vs : List V} (F : FnG X.prog X.w X.K X.mg X.base C k f g) (hr : Room k X.A) (fr : Free X.A) (hx : Passes C X E) (I : Inv X pins σ H s) (r : Vals vs us) (h : g vs H Q E) :
    wpAny (model X.prog X.w) X.A (call (.ref f) us) (EP X pins σ Q) X.xe s := wpAny_call (after0 hx I (F X.A X.stack s H us vs Q E hr fr I.env0 r h))
/-- f(e, ..), f a def that wants no display under way -/
theorem pe_callG (F : FnG X.prog X.w X.K X.mg X.base C k f g) (hr : Room k X.A) (fr : Free X.A) (hg : Gl X x) (hm : X.mg x = some (.ref f)) (hk : PySem.W.keepIn X.K (.ref f) = true) (hx : Passes C X E) (ha : PA X (e :: es) t)
    (hdb : (x == ("__debug__" : Str)) = false := by decide) (he : starEach (e :: es) X.env = (false, eval e X.env) :: starEach es X.env := by rfl) (hpl : (backTo pos (starEach es X.env)).any (·.1) = false := by rfl) :
    PE X (.Call (.Name x p) (e :: es) [] pos) (tCall g [] E t) := by
  constructor
  intro pins s σ H Q I h
  apply wpAny_Call_Name_kw
  refine ld_glob I hg hm ?_ hdb
  refine PySem.W.callWith_K (h₀ := X.base) I.ok.mod.kin hk (thn (ha.run pos pins s σ H _ I h) ?_) he hpl
  rintro us s1 ⟨vs, H1, I1, r, q⟩
  refine ⟨I1.kIn, run_G F hr fr hx I1 r ?_⟩
  have q' : g (vs ++ []) H1 Q E := q
  rw [List.append_nil] at q'
  exact q'
/-- f(), likewise -/
theorem pe_callG0 (F : FnG X.prog X.w X.K X.mg X.base C k f g) (hr : Room k X.A) (fr : Free X.A) (hg : Gl X x) (hm : X.mg x = some (.ref f)) (hk : PySem.W.keepIn X.K (.ref f) = true) (hx : Passes C X E)
    (hdb : (x == ("__debug__" : Str)) = false := by decide) : PE X (.Call (.Name x p) [] [] pos) (tCall g [] E tNil) := by
  constructor
  intro pins s σ H Q I h
  apply wpAny_Call_Name_kw
  refine ld_glob I hg hm ?_ hdb
  exact PySem.W.callWith_K0 I.kIn hk (run_G (us := []) (vs := []) F hr fr hx I .nil h)
/-- f(e, ..), f a def whose arguments are all given -/
theorem pe_callR (F : FnR X.prog X.w X.K X.mg X.base C k f g) (hr : Room k X.A) (hg : Gl X x) (hm : X.mg x = some (.ref f)) (hk : PySem.W.keepIn X.K (.ref f) = true) (hx : Passes C X E) (ha : PA X (e :: es) t)
    (hdb : (x == ("__debug__" : Str)) = false := by decide) (he : starEach (e :: es) X.env = (false, eval e X.env) :: starEach es X.env := by rfl) (hpl : (backTo pos (starEach es X.env)).any (·.1) = false := by rfl) :
    PE X (.Call (.Name x p) (e :: es) [] pos) (tCall g [] E t) := by
  constructor
  intro pins s σ H Q I h
  apply wpAny_Call_Name_kw
  refine ld_glob I hg hm ?_ hdb
  refine PySem.W.callWith_K (h₀ := X.base) I.ok.mod.kin hk (thn (ha.run pos pins s σ H _ I h) ?_) he hpl
  rintro us s1 ⟨vs, H1, I1, r, q⟩
  refine ⟨I1.kIn, wpAny_call (run_fnR F hr hx I1 r ?_)⟩
  have q' : g (vs ++ []) H1 Q E := q
  rw [List.append_nil] at q'
  exact q'
/-- an expression that is never asked -/
theorem pe_never {e : Expr} : PE X e (fun _ _ _ => False) := ⟨fun _ _ _ _ _ _ h => h.elim⟩
theorem pt_never {e : Expr} : PT X e (fun _ _ _ => False) := ⟨fun _ _ _ _ _ _ h => h.elim⟩
end
end RR
set_option maxHeartbeats 2000000
namespace RR
open PySem PySem.Spec PyProof.Rows L2

/-- the heap behind the top, with the script alone tracked (or nothing, where the script is one of the text's own lists) -/
def hpOf (a : Addr) (vs : List Value) (ns : List Int) (own : Bool) : Hp := fun b => if own = false ∧ b = a then some (.frz { cls := .type "list", data := .seq vs.toArray } (.lst (ns.map V.int))) else none
theorem hp_own (a : Addr) (vs : List Value) (ns : List Int) (b : Addr) : hpOf a vs ns true b = none := if_neg fun z => by cases z.1
theorem hp_at (a : Addr) (vs : List Value) (ns : List Int) : hpOf a vs ns false a = some (.frz { cls := .type "list", data := .seq vs.toArray } (.lst (ns.map V.int))) := if_pos ⟨rfl, rfl⟩
theorem hp_off {a b : Addr} {vs : List Value} {ns : List Int} {o : Bool} (h : b ≠ a) : hpOf a vs ns o b = none := if_neg fun z => h z.2
theorem hp_only {a b : Addr} {vs : List Value} {ns : List Int} {o : Bool} {u : HO} (h : hpOf a vs ns o b = some u) : b = a ∧ o = false ∧ u = .frz { cls := .type "list", data := .seq vs.toArray } (.lst (ns.map V.int)) := by
  by_cases hb : o = false ∧ b = a
  · have z := (if_pos hb).symm.trans h
    exact ⟨hb.2, hb.1, (Option.some.inj z).symm⟩
  · have z := (if_neg hb).symm.trans h
    cases z

/-- the law's own call, from its promise where no display is under way -/
theorem lawG {P : Program} {w : World} {K : PySem.W.Frag} {mg mb : Str → Option Value} {k : Nat} {fa a : Addr} {g : Sp} {s : Shared} {vs : List Value} {ns : List Int}
    (kin : K.In s.heap) (hns : s.heap.Ns mainGlobals mg) (hb : s.heap.Ns builtinsNs mb) (hbb : ∀ x : Str, x ≠ "__name__" → mb x = bootBuiltins x) (lim : s.heap.NoLimit) (hgen : s.gens = #[])
    (ha : s.heap.get? a = some { cls := .type "list", data := .seq vs.toArray }) (hi : IntsAre vs ns) (hl : ns.length ≤ sizeLine) (hr : Room k callerA)
    (F : ∀ base : Heap, K.In base → base.Ns mainGlobals mg → FnG P w K mg base CX0 k fa g)
    (sp : ∀ H : Hp, SqL K H a (ns.map V.int) → g [.ref a] H (fun v _ => v = .bl true) E0) :
    codeAny (model P w) callerA (.call (.ref fa) ⟨[.ref a], []⟩) (fun r s' => r = .ok (.ret (.bool true)) ∧ OldK s.heap s'.heap ∧ s'.os = s.os ∧ AllBare s'.gens) s := by
  have rv := vals_ints hi
  have main : ∀ o : Bool, (o = true → ∃ ob, K.lookup a = some ob) → (o = false → K.lookup a = none) →
      codeAny (model P w) callerA (.call (.ref fa) ⟨[.ref a], []⟩) (fun r s' => r = .ok (.ret (.bool true)) ∧ OldK s.heap s'.heap ∧ s'.os = s.os ∧ AllBare s'.gens) s := by
    intro o h1 h0
    have hok : HOk P w (hpOf a vs ns o) s.heap := fun b u z => by
      obtain ⟨rfl, -, rfl⟩ := hp_only z
      exact ⟨ha, by rw [List.length_map]; exact hl, vs, _, rv, ha⟩
    have seq : SqL K (hpOf a vs ns o) a (ns.map V.int) := by
      cases o with
      | false => exact .inl (.inr ⟨_, hp_at a vs ns⟩)
      | true =>
        obtain ⟨ob, e⟩ := h1 rfl
        have e2 := kin a ob e
        rw [ha] at e2
        cases e2
        exact .inr ⟨_, vs.toArray, _, e, rfl, rfl, rfl, by rw [List.size_toArray, hi.length]; exact hl, by simpa using rv⟩
    have keepH : ∀ {b : Addr} {ob : Obj}, s.heap.get? b = some ob → hpOf a vs ns o b = none → (hidT s.heap (hpOf a vs ns o)).get? b = some ob := fun e n => hidT_get e n
    have off : ∀ {b : Addr} {ob : Obj} {es : Array DictEntry} {ep : Nat}, s.heap.get? b = some ob → ob.data = .dict es ep → hpOf a vs ns o b = none := by
      intro b ob es ep e d
      refine hp_off fun z => ?_
      rw [z, ha] at e
      cases e
      cases (show Data.seq vs.toArray _ = Data.dict es ep from d)
    have nsH : ∀ {b : Addr} {m : Str → Option Value}, s.heap.Ns b m → (hidT s.heap (hpOf a vs ns o)).Ns b m := by
      rintro b m ⟨ob, es, ep, e, d, r⟩
      exact ⟨ob, es, ep, keepH e (off e d), d, r⟩
    have kinH : K.In (hidT s.heap (hpOf a vs ns o)) := fun b ob e => keepH (kin b ob e) (by
      cases q : hpOf a vs ns o b with
      | none => rfl
      | some u =>
        obtain ⟨rfl, z, -⟩ := hp_only q
        rw [h0 z] at e
        cases e)
    have md : Mod K mg (hidT s.heap (hpOf a vs ns o)) := ⟨kinH, nsH hns, ⟨mb, nsH hb, hbb⟩, by
      obtain ⟨mc, y1, y2⟩ := lim
      exact ⟨mc, nsH y1, y2⟩⟩
    have e0 : Env0 P w K mg (hidT s.heap (hpOf a vs ns o)) callerA [] s (hpOf a vs ns o) :=
      { frames := rfl, mod := md, bs := fun b ob e => of_hidT e, bsz := Nat.le_of_eq (hidT_size _ _), funs := trivial, frf := fun b z => absurd (show b ∈ ([] : List Addr) from z) (by simp), hok := hok, bare := .of_eq hgen }
    have z := F _ kinH (nsH hns) callerA [] s (hpOf a vs ns o) [.ref a] [.ref a] _ E0 hr rfl e0 (.cons rfl .nil) (sp _ seq)
    refine codeAny_mono z fun r s' h => ?_
    match r, h with
    | .error _, h => exact (show False from h).elim
    | .ok .next, h => exact h.elim
    | .ok .brk, h => exact h.elim
    | .ok .cont, h => exact h.elim
    | .ok (.ret u), h =>
      obtain ⟨v, H', os, bare, un, hok', r', q⟩ := h
      cases (show v = .bl true from q)
      cases (show u = Value.bool true from r')
      refine ⟨rfl, OldK.of_keep fun b ob e => ?_, os, bare⟩
      cases q2 : hpOf a vs ns o b with
      | none => exact un.keep b ob e q2 (fun z => absurd (show b ∈ ([] : List Addr) from z) (by simp)) (by simp)
      | some u =>
        obtain ⟨rfl, -, rfl⟩ := hp_only q2
        have y := (hok' b _ (un.frzs b _ _ q2)).1
        rw [ha] at e
        cases e
        exact y
  cases hk : K.lookup a with
  | some ob => exact main true (fun _ => ⟨ob, hk⟩) fun z => by cases z
  | none => exact main false (fun z => by cases z) fun _ => hk

/-- the goal that k_head leaves, from the law's promise -/
theorem walkG {l : PySem.W.OpenLaw} {n k : Nat} {q : Program} {loose : List Str} {XP : (Str → Option Value) → Heap → Prop} {YP : World → Heap → Prop} {d : DefRec} {K : Params → PySem.W.Frag} {g : PySem.W.Frag → Sp}
    (hn : l.most = some n) (hn2 : n ≤ sizeLine) (hdf : d.params.defaults = []) (hr : Room k callerA) (hY : ∀ (w : World) (h : Heap), YP w h → (K w.params).In h)
    (F : ∀ (w : World) (mg : Str → Option Value) (fa : Addr) (h : Heap), (K w.params).In h → h.Ns mainGlobals mg → mg d.name = some (.ref fa) →
      ∀ base : Heap, (K w.params).In base → base.Ns mainGlobals mg → FnG l.prog w (K w.params) mg base CX0 k fa (g (K w.params)))
    (sp : ∀ (K : PySem.W.Frag) (H : Hp) (a : Addr) (ns : List Int), ns.length ≤ n → SqL K H a (ns.map V.int) → g K [.ref a] H (fun v _ => v = .bl true) E0) :
    PySem.W.WalkO q loose XP YP l.row.toRowW d [] (fun f vs => PySem.call f vs) := by
  refine Att.attach_call hn hdf fun w s0 s mg mb fa o pm cd doc a vs ns G Y ho hd hcd hmg hobj hints hlen hg => ?_
  have kin := hY w _ Y
  exact lawG kin G.T.g G.T.b G.T.builtins G.T.nolimit hg hobj hints (Nat.le_trans hlen hn2) hr (F w mg fa _ kin G.T.g hmg) fun H hS => sp _ H a ns hlen hS
end RR
set_option maxHeartbeats 4000000
namespace RR
open PySem PySem.Spec PyProof.Rows L2

/-- an operator's method has answered -/
theorem back_of {P : Value → Shared → Prop} {z : V} {v : Value} {s' : Shared} (r : RelV z v) (h : P v s') : PySem.W.CmpBack P v s' := by
  cases z with
  | non => obtain rfl : v = .none := r; exact h
  | bl b => obtain rfl : v = .bool b := r; exact h
  | int i => obtain ⟨t, rfl⟩ := r; exact h
  | str x => obtain ⟨t, rfl⟩ := r; exact h
  | byt b => obtain ⟨t, rfl⟩ := r; exact h
  | flt b => obtain ⟨t, rfl⟩ := r; exact h
  | ref a => obtain rfl : v = .ref a := r; exact h
  | ty n => obtain rfl : v = .type n := r; exact h

/-- an int, or an instance of the class at C -/
def IntOr (C : Addr) (H : Hp) (y : V) : Prop := (∃ i, y = .int i) ∨ ∃ b dx fs, y = .ref b ∧ H b = some (.ins C dx fs)

/-- what the text says of the class at C and one of its operators -/
structure BinOf (K : PySem.W.Frag) (C : Addr) (op : Operator) (f : Addr) (rc fo ro : Option Value) : Prop where
  sf : PySem.W.selfFirst K C = true
  hs : PySem.W.findIn K (.ref C) (PySem.dunder op.info.2) = some (some (.ref f))
  hf : PySem.W.isFn K (.ref f) = true
  hr : PySem.W.findIn K (.ref C) (dunderR op.info.2) = some rc
  hp : rc = none ∨ ∃ q : Addr, rc = some (.ref q)
  h1 : PySem.W.findIn K (.type "int") (PySem.dunder op.info.2) = some fo
  h2 : PySem.W.findIn K (.type "int") (dunderR op.info.2) = some ro
  sub : PySem.W.subIn K (.type "int") (.ref C) = some false

section
variable {X : Cx} {CX : CXT} {pins : List (Addr × Obj)} {σ : L2.St} {H : Hp} {s : Shared} {C f : Addr} {n : Nat} {g : Sp} {E : XK} {op : Operator} {rc fo ro : Option Value}

theorem inst_of {a dx : Addr} {fs : List (Str × V)} (I : Inv X pins σ H s) (ea : H a = some (.ins C dx fs)) : ∃ od, PySem.W.InstAt s.heap a (PySem.W.instObj C dx) C (some od) := by
  obtain ⟨mA, O, _⟩ := ins_get I.hok ea
  obtain ⟨od, J, _⟩ := O.look
  exact ⟨od, J⟩

/-- x op y, x an instance of the class, y an int or another one: the method's promise -/
def rOpL (C : Addr) (g : Sp) (E : XK) : R2 := fun x y H Q => (∃ a dx fs, x = .ref a ∧ H a = some (.ins C dx fs)) ∧ IntOr C H y ∧ g [x, y] H Q E
theorem op_ownL (T : BinOf X.K C op f rc fo ro) (F : FnR X.prog X.w X.K X.mg X.base CX n f g) (hr : Room n X.A) (hx : Passes CX X E) : OpR X (binaryOp op) (rOpL C g E) := by
  intro pins s σ H x y v u Q I rx ry h
  obtain ⟨⟨a, dx, fs, rfl, ea⟩, hy, q⟩ := h
  obtain rfl : v = .ref a := rx
  obtain ⟨od, J⟩ := inst_of I ea
  obtain ⟨m, fr⟩ := I.fr
  have run : wpAny (model X.prog X.w) X.A (call (.ref f) [.ref a, u]) (PySem.W.CmpBack (EP X pins σ Q)) X.xe s := by
    refine wpAny_mono (wpAny_call (run_fnR (us := [.ref a, u]) (vs := [.ref a, y]) F hr hx I (.cons rfl (.cons ry .nil)) q)) ?_ fun _ _ z => z
    rintro z s2 ⟨z', H2, I2, rz, qz⟩
    exact back_of rz ⟨z', H2, I2, rz, qz⟩
  rcases hy with ⟨i, rfl⟩ | ⟨b, dy, gs, rfl, eb⟩
  · obtain ⟨t, rfl⟩ := ry
    exact PySem.W.ksp_binT fr I.ok.mod.kin J rfl T.sf T.hs T.hf T.hr T.hp T.h1 T.h2 T.sub run
  · obtain rfl : u = .ref b := ry
    obtain ⟨od', J'⟩ := inst_of I eb
    exact PySem.W.binop_K fr I.ok.mod.kin J J'.type T.sf T.hs T.hf run

/-- -x, x an instance -/
def rNegO (C : Addr) (g : Sp) (E : XK) : V → Hp → VK → Prop := fun x H Q => (∃ a dx fs, x = .ref a ∧ H a = some (.ins C dx fs)) ∧ g [x] H Q E
theorem un_negO (hs : PySem.W.findIn X.K (.ref C) "__neg__" = some (some (.ref f))) (hf : PySem.W.isFn X.K (.ref f) = true) (F : FnR X.prog X.w X.K X.mg X.base CX n f g) (hr : Room n X.A) (hx : Passes CX X E) : UnR X (unaryOp .USub) (rNegO C g E) := by
  intro pins s σ H x v Q I rx h
  obtain ⟨⟨a, dx, fs, rfl, ea⟩, q⟩ := h
  obtain rfl : v = .ref a := rx
  obtain ⟨od, J⟩ := inst_of I ea
  obtain ⟨m, fr⟩ := I.fr
  exact PySem.W.ksp_neg fr I.ok.mod.kin J hs hf (wpAny_call (run_fnR (us := [.ref a]) (vs := [.ref a]) F hr hx I (.cons rfl .nil) q))

/-- x < y and its like, x an instance, y an int or another one -/
theorem op_cmpL {cop : CmpOp} (hop : ∀ a b, compareOp cop a b = richCompare cop a b) (hs : PySem.W.findIn X.K (.ref C) (cmpInfo cop).2.1 = some (some (.ref f))) (hf : PySem.W.isFn X.K (.ref f) = true)
    (n1 : PySem.W.notFirst X.K C (.type "int") = true) (n2 : PySem.W.notFirst X.K C (.ref C) = true) (F : FnR X.prog X.w X.K X.mg X.base CX n f g) (hr : Room n X.A) (hx : Passes CX X E) : OpR X (compareOp cop) (rOpL C g E) := by
  intro pins s σ H x y v u Q I rx ry h
  obtain ⟨⟨a, dx, fs, rfl, ea⟩, hy, q⟩ := h
  obtain rfl : v = .ref a := rx
  obtain ⟨od, J⟩ := inst_of I ea
  obtain ⟨m, fr⟩ := I.fr
  have run : wpAny (model X.prog X.w) X.A (call (.ref f) [.ref a, u]) (PySem.W.CmpBack (EP X pins σ Q)) X.xe s := by
    refine wpAny_mono (wpAny_call (run_fnR (us := [.ref a, u]) (vs := [.ref a, y]) F hr hx I (.cons rfl (.cons ry .nil)) q)) ?_ fun _ _ z => z
    rintro z s2 ⟨z', H2, I2, rz, qz⟩
    exact back_of rz ⟨z', H2, I2, rz, qz⟩
  rw [hop]
  rcases hy with ⟨i, rfl⟩ | ⟨b, dy, gs, rfl, eb⟩
  · obtain ⟨t, rfl⟩ := ry
    exact PySem.W.cmp_K (tb := .type "int") hr.units0 fr I.ok.mod.kin J (PySem.W.Looks.of_pure rfl) n1 hs hf run
  · obtain rfl : u = .ref b := ry
    obtain ⟨od', J'⟩ := inst_of I eb
    exact PySem.W.cmp_K (tb := .ref C) hr.units0 fr I.ok.mod.kin J J'.type n2 hs hf run
end
end RR
set_option maxHeartbeats 4000000
namespace RR
open PySem PySem.Spec PyProof.Rows L2

/-- the int's own method declines an instance -/
def Declines (op : Operator) : Prop := ∃ (id : String) (B : Builtin), Slot "int" (PySem.dunder op.info.2) id ∧ entryFor table id = some B ∧ (∀ a b, argsOk id ⟨[a, b], []⟩) ∧
  ∀ (a : Int) (t : Tok) (l C dx : Addr), Meets (B ⟨[.int a t, .ref l], []⟩) (fun _ R s => s.heap.get? l = some (PySem.W.instObj C dx) ∧ R (.ok (.ret Value.notImplemented)) s)
theorem dec_add : Declines .Add := ⟨_, _, PySem.F.slot_int_add, PySem.F.entry_int_add, fun a b => PySem.F.args_int_add_2 a b, fun a t l C dx =>
  .of_wp fun prog w A R s h => by obtain ⟨hp, g, d, tk, os⟩ := s; obtain ⟨hl, h⟩ := h; unfold PySem.W.instObj at hl; wp_walk; exact ⟨_, rfl, h⟩⟩
theorem dec_sub : Declines .Sub := ⟨_, _, PySem.F.slot_int_sub, PySem.F.entry_int_sub, fun a b => PySem.F.args_int_sub_2 a b, fun a t l C dx =>
  .of_wp fun prog w A R s h => by obtain ⟨hp, g, d, tk, os⟩ := s; obtain ⟨hl, h⟩ := h; unfold PySem.W.instObj at hl; wp_walk; exact ⟨_, rfl, h⟩⟩
theorem dec_mul : Declines .Mult := ⟨_, _, PySem.F.slot_int_mul, PySem.F.entry_int_mul, fun a b => PySem.F.args_int_mul_2 a b, fun a t l C dx =>
  .of_wp fun prog w A R s h => by obtain ⟨hp, g, d, tk, os⟩ := s; obtain ⟨hl, h⟩ := h; unfold PySem.W.instObj at hl; wp_walk; exact ⟨_, rfl, h⟩⟩

/-- what the text says of the class at C and one of its reflected operators (f: the plain one, r: the reflected one) -/
structure RefOf (K : PySem.W.Frag) (C : Addr) (op : Operator) (f r : Addr) (fo ro : Option Value) : Prop where
  sf : PySem.W.selfFirst K C = true
  hs : PySem.W.findIn K (.ref C) (PySem.dunder op.info.2) = some (some (.ref f))
  hr : PySem.W.findIn K (.ref C) (dunderR op.info.2) = some (some (.ref r))
  hf : PySem.W.isFn K (.ref r) = true
  h1 : PySem.W.findIn K (.type "int") (PySem.dunder op.info.2) = some fo
  h2 : PySem.W.findIn K (.type "int") (dunderR op.info.2) = some ro
  full : ((fo.isSome && !isSeqSlot fo) || (ro.isSome && !isSeqSlot ro)) = true
  sub : PySem.W.subIn K (.ref C) (.type "int") = some false

section
variable {prog : Program} {w : World} {A : Around} {Er : Value → Shared → Prop} {s : Shared} {K : PySem.W.Frag} {x C dx f r : Addr} {od : Option Obj} {op : Operator} {fo ro : Option Value} {i : Int} {t : Tok}
/-- an int on the left: its method declines, then the instance's reflected one answers -/
theorem refl1 {Q : Value → Shared → Prop} (kin : K.In s.heap) (J : PySem.W.InstAt s.heap x (PySem.W.instObj C dx) C od) (T : RefOf K C op f r fo ro) (D : Declines op)
    (h : wpAny (model prog w) A (call (.ref r) [.ref x, .int i t]) (PySem.W.CmpBack Q) Er s) : wpAny (model prog w) A (binaryOp1 op.info.2 (.int i t) (.ref x)) (fun v s' => ∃ z, v = some z ∧ Q z s') Er s := by
  obtain ⟨cd, rest, hcd, hm⟩ := PySem.W.ksp_first T.sf
  obtain ⟨id, B, slot, entry, args, meets⟩ := D
  have T' := T
  obtain ⟨sf, hs, hr, hf, h1, h2, full, sub⟩ := T
  rcases hi : op.info with ⟨sym, nm⟩
  rw [hi] at hs hr h1 h2 slot
  dsimp only at hs hr h1 h2 slot
  have one := PySem.W.ksp_try kin J hr hf h
  have hx : s.heap.get? x = some (PySem.W.instObj C dx) := J.at_
  obtain ⟨hh, g, d, tt, os⟩ := s
  have L1 : PySem.W.Looks (model prog w) hh (typeOf (.int i t)) (.type "int") := PySem.W.Looks.of_pure rfl
  have L2 : PySem.W.Looks (model prog w) hh (typeOf (.ref x)) (.ref C) := J.type
  have L3 : PySem.W.Looks (model prog w) hh (fillsNumberSlot (.type "int") nm) true := by have z := PySem.W.ksp_fillsT (M := model prog w) kin h1 h2; rw [full] at z; exact z
  have L4 : PySem.W.Looks (model prog w) hh (fillsNumberSlot (.ref C) nm) true := PySem.W.fills_K kin hcd hm hs
  have L5 : PySem.W.Looks (model prog w) hh (isSubtype (.ref C) (.type "int")) false := PySem.W.looks_subIn kin sub
  have L6 : PySem.W.Looks (model prog w) hh (numberSlotInPython (.type "int") nm) false := PySem.W.Looks.of_pure rfl
  have hne : (Value.type "int" == Value.ref C) = false := Bool.eq_false_iff.mpr fun q => by cases beq_iff_eq.mp q
  have no : ∀ {R : Option Value → Shared → Prop}, R none ⟨hh, g, d, tt, os⟩ → wpAny (model prog w) A (tryMethod (.int i t) (PySem.dunder nm) (.ref x)) R Er ⟨hh, g, d, tt, os⟩ := fun {R} hR =>
    wpAny_tryMethod_declines (typeIs_int _ _ _) slot (PySem.call_meets slot (typeIs_int _ _ _) entry (args _ _) (meets i t x C dx) ⟨hx, rfl, hR⟩)
  unfold binaryOp1
  refine wpAny_bind (L1.at (wpAny_bind (L2.at (wpAny_bind (L3.at ?_)))))
  simp only [hne, Bool.false_eq_true, if_false]
  ksp_lk
  refine no ?_
  ksp_lk
  refine wpAny_mono one (fun v s' hv => ?_) fun _ _ e => e
  obtain ⟨z, rfl, hq⟩ := hv
  first
    | exact wpAny_bind (wpAny_rule (wpAny_pure ⟨z, rfl, hq⟩))
    | (ksp_lk; exact ⟨z, rfl, hq⟩)
end
end RR
set_option maxHeartbeats 4000000
namespace RR
open PySem PySem.Spec PyProof.Rows L2

/-- no in-place method of the class, nor of object -/
structure NoI (K : PySem.W.Frag) (C : Addr) (op : Operator) : Prop where
  mro : (PySem.W.clsIn K C).any (fun cd => cd.mro == [.ref C, .type "object"]) = true
  c : PySem.W.findIn K (.ref C) (dunderI op.info.2) = some none
  o : PySem.W.findIn K (.type "object") (dunderI op.info.2) = some none
  i : PySem.W.findIn K (.type "int") (dunderI op.info.2) = some none

section
variable {prog : Program} {w : World} {A : Around} {Er : Value → Shared → Prop} {s : Shared} {K : PySem.W.Frag} {x C dx f : Addr} {od : Option Obj} {op : Operator} {rc fo ro : Option Value} {b : Value}
/-- an instance on the left: its own method answers (the step that + and += share) -/
theorem left1 {ox : Obj} {Q : Value → Shared → Prop} (kin : K.In s.heap) (J : PySem.W.InstAt s.heap x ox C od) (T : BinOf K C op f rc fo ro) (hb : typeOf b = pure (.type "int") ∨ PySem.W.Looks (model prog w) s.heap (typeOf b) (.ref C))
    (h : wpAny (model prog w) A (call (.ref f) [.ref x, b]) (PySem.W.CmpBack Q) Er s) : wpAny (model prog w) A (binaryOp1 op.info.2 (.ref x) b) (fun v s' => ∃ z, v = some z ∧ Q z s') Er s := by
  obtain ⟨cd, rest, hcd, hm⟩ := PySem.W.ksp_first T.sf
  obtain ⟨sf, hs, hf, hr, hp, h1, h2, sub⟩ := T
  rcases hi : op.info with ⟨sym, nm⟩
  rw [hi] at hs hr h1 h2
  dsimp only at hs hr h1 h2
  have one := PySem.W.ksp_try kin J hs hf h
  obtain ⟨hh, g, d, tt, os⟩ := s
  have L1 : PySem.W.Looks (model prog w) hh (typeOf (.ref x)) (.ref C) := J.type
  have L3 : PySem.W.Looks (model prog w) hh (fillsNumberSlot (.ref C) nm) true := PySem.W.fills_K kin hcd hm hs
  have L6 : PySem.W.Looks (model prog w) hh (numberSlotInPython (.ref C) nm) true := PySem.W.ksp_inPy kin hs hr hp
  rcases hb with hb | hb
  · have L2 : PySem.W.Looks (model prog w) hh (typeOf b) (.type "int") := PySem.W.Looks.of_pure hb
    have L4 := PySem.W.ksp_fillsT (M := model prog w) kin h1 h2
    have L5 : PySem.W.Looks (model prog w) hh (isSubtype (.type "int") (.ref C)) false := PySem.W.looks_subIn kin sub
    have L7 : PySem.W.Looks (model prog w) hh (numberSlotInPython (.type "int") nm) false := PySem.W.Looks.of_pure rfl
    have L8 : PySem.W.Looks (model prog w) hh (typeLookup (.type "int") (dunderR nm)) ro := PySem.W.looks_findIn kin h2
    generalize ((fo.isSome && !isSeqSlot fo) || (ro.isSome && !isSeqSlot ro)) = right at L4
    have hne : (Value.ref C == Value.type "int") = false := Bool.eq_false_iff.mpr fun q => by cases beq_iff_eq.mp q
    unfold binaryOp1
    refine wpAny_bind (L1.at (wpAny_bind (L2.at (wpAny_bind (L3.at ?_)))))
    simp only [hne, Bool.false_eq_true, if_false]
    cases right with
    | false =>
      ksp_lk
      refine wpAny_mono one (fun v s' hv => ?_) fun _ _ e => e
      obtain ⟨z, rfl, hq⟩ := hv
      ksp_lk
      exact ⟨z, rfl, hq⟩
    | true =>
      ksp_lk
      refine wpAny_mono one (fun v s' hv => ?_) fun _ _ e => e
      obtain ⟨z, rfl, hq⟩ := hv
      ksp_lk
      exact ⟨z, rfl, hq⟩
  · have L2 : PySem.W.Looks (model prog w) hh (typeOf b) (.ref C) := hb
    unfold binaryOp1
    refine wpAny_bind (L1.at (wpAny_bind (L2.at (wpAny_bind (L3.at ?_)))))
    simp only [beq_self_eq_true, if_true]
    ksp_lk
    refine wpAny_mono one (fun v s' hv => ?_) fun _ _ e => e
    obtain ⟨z, rfl, hq⟩ := hv
    ksp_lk
    exact ⟨z, rfl, hq⟩

theorem noI_C (kin : K.In s.heap) (T : NoI K C op) {add : Bool} : PySem.W.Looks (model prog w) s.heap (fillsInplaceSlot (.ref C) op.info.2 add) false := by
  obtain ⟨cd, hcd, hm⟩ := PySem.W.any_some T.mro
  have hm' : cd.mro = [.ref C, .type "object"] := beq_iff_eq.mp hm
  intro A Q E s2 k q
  have Lm : PySem.W.Looks (model prog w) s.heap (mroOf (.ref C)) cd.mro := (PySem.W.looks_clsIn kin hcd).andThen (f := fun cd => pure cd.mro) .now
  have Lm2 := Lm.keeps k
  have kin2 : K.In s2.heap := kin.keeps k
  obtain ⟨hh, g, d, tt, os⟩ := s2
  have L1 : PySem.W.Looks (model prog w) hh (typeLookup (.ref C) (dunderI op.info.2)) none := PySem.W.looks_findIn kin2 T.c
  have L2 : PySem.W.Looks (model prog w) hh (typeLookup (.type "object") (dunderI op.info.2)) none := PySem.W.looks_findIn kin2 T.o
  unfold fillsInplaceSlot
  refine wpAny_bind (Lm2.at ?_)
  rw [hm', List.anyM_cons]
  refine wpAny_bind ?_
  repeat lk
  exact q
theorem noI_int (kin : K.In s.heap) (T : NoI K C op) {add : Bool} : PySem.W.Looks (model prog w) s.heap (fillsInplaceSlot (.type "int") op.info.2 add) false := by
  intro A Q E s2 k q
  have kin2 : K.In s2.heap := kin.keeps k
  obtain ⟨hh, g, d, tt, os⟩ := s2
  have L1 : PySem.W.Looks (model prog w) hh (typeLookup (.type "int") (dunderI op.info.2)) none := PySem.W.looks_findIn kin2 T.i
  unfold fillsInplaceSlot
  repeat lk
  exact q
end
end RR
set_option maxHeartbeats 4000000
namespace RR
open PySem PySem.Spec PyProof.Rows L2

section
variable {X : Cx} {CX : CXT} {pins : List (Addr × Obj)} {σ : L2.St} {H : Hp} {s : Shared} {C f r : Addr} {n : Nat} {g g' : Sp} {E : XK} {op : Operator} {rc fo ro : Option Value}

/-- i op y, i an int, y an instance: the reflected method's promise -/
def rOpR (C : Addr) (g : Sp) (E : XK) : R2 := fun x y H Q => (∃ i, x = .int i) ∧ (∃ a dx fs, y = .ref a ∧ H a = some (.ins C dx fs)) ∧ g [y, x] H Q E
theorem run_refl (T : RefOf X.K C op f r fo ro) (D : Declines op) (F : FnR X.prog X.w X.K X.mg X.base CX n r g) (hr : Room n X.A) (hx : Passes CX X E) {x y : V} {v u : Value} {Q : VK} (I : Inv X pins σ H s) (rx : RelV x v) (ry : RelV y u) (h : rOpR C g E x y H Q) :
    wpAny (model X.prog X.w) X.A (binaryOp1 op.info.2 v u) (fun v s' => ∃ z, v = some z ∧ EP X pins σ Q z s') X.xe s := by
  obtain ⟨⟨i, rfl⟩, ⟨a, dx, fs, rfl, ea⟩, q⟩ := h
  obtain rfl : u = .ref a := ry
  have rx' := rx
  obtain ⟨t, rfl⟩ := rx
  obtain ⟨od, J⟩ := inst_of I ea
  refine refl1 I.kIn J T D ?_
  refine wpAny_mono (wpAny_call (run_fnR (us := [.ref a, .int i t]) (vs := [.ref a, .int i]) F hr hx I (.cons rfl (.cons rx' .nil)) q)) ?_ fun _ _ z => z
  rintro z s2 ⟨z', H2, I2, rz, qz⟩
  exact back_of rz ⟨z', H2, I2, rz, qz⟩
theorem run_left (T : BinOf X.K C op f rc fo ro) (F : FnR X.prog X.w X.K X.mg X.base CX n f g) (hr : Room n X.A) (hx : Passes CX X E) {x y : V} {v u : Value} {Q : VK} (I : Inv X pins σ H s) (rx : RelV x v) (ry : RelV y u) (h : rOpL C g E x y H Q) :
    wpAny (model X.prog X.w) X.A (binaryOp1 op.info.2 v u) (fun v s' => ∃ z, v = some z ∧ EP X pins σ Q z s') X.xe s := by
  obtain ⟨⟨a, dx, fs, rfl, ea⟩, hy, q⟩ := h
  obtain rfl : v = .ref a := rx
  obtain ⟨od, J⟩ := inst_of I ea
  have hb : typeOf u = pure (.type "int") ∨ PySem.W.Looks (model X.prog X.w) s.heap (typeOf u) (.ref C) := by
    rcases hy with ⟨i, rfl⟩ | ⟨b, dy, gs, rfl, eb⟩
    · obtain ⟨t, rfl⟩ := ry
      exact .inl rfl
    · obtain rfl : u = .ref b := ry
      obtain ⟨od', J'⟩ := inst_of I eb
      exact .inr J'.type
  refine left1 I.kIn J T hb ?_
  refine wpAny_mono (wpAny_call (run_fnR (us := [.ref a, u]) (vs := [.ref a, y]) F hr hx I (.cons rfl (.cons ry .nil)) q)) ?_ fun _ _ z => z
  rintro z s2 ⟨z', H2, I2, rz, qz⟩
  exact back_of rz ⟨z', H2, I2, rz, qz⟩

theorem op_ownR (T : RefOf X.K C op f r fo ro) (D : Declines op) (F : FnR X.prog X.w X.K X.mg X.base CX n r g) (hr : Room n X.A) (hx : Passes CX X E) : OpR X (binaryOp op) (rOpR C g E) := by
  intro pins s σ H x y v u Q I rx ry h
  have z := run_refl T D F hr hx I rx ry h
  rcases hi : op.info with ⟨sym, nm⟩
  rw [hi] at z
  simp only [binaryOp, hi]
  refine wpAny_holding (wpAny_bind (wpAny_mono z ?_ fun _ _ e => e))
  rintro v s' ⟨z, rfl, hq⟩
  exact wpAny_pure hq

/-- x op= y where the class has no in-place method: as x op y -/
def rOpI (C : Addr) (g g' : Sp) (E : XK) : TIp := fun x y H Q => rOpL C g E x y H Q ∨ rOpR C g' E x y H Q
theorem ip_own (T : BinOf X.K C op f rc fo ro) (F : FnR X.prog X.w X.K X.mg X.base CX n f g) (T' : RefOf X.K C op f r fo ro) (D : Declines op) (F' : FnR X.prog X.w X.K X.mg X.base CX n r g') (N : NoI X.K C op) (hr : Room n X.A) (hx : Passes CX X E) :
    PIp X op (rOpI C g g' E) := by
  intro pins s σ H x y v u Q I rx ry h
  have fin : ∀ {a : Value}, wpAny (model X.prog X.w) X.A (binaryOp1 op.info.2 v u) (fun v s' => ∃ z, v = some z ∧ EP X pins σ Q z s') X.xe s → PySem.W.Looks (model X.prog X.w) s.heap (typeOf v) a →
      PySem.W.Looks (model X.prog X.w) s.heap (fillsInplaceSlot a op.info.2 (op == .Add)) false → wpAny (model X.prog X.w) X.A (inplaceOp op v u) (EP X pins σ Q) X.xe s := by
    intro a z l1 l2
    obtain ⟨hh, gg, d, tt, os⟩ := s
    unfold inplaceOp
    refine wpAny_holding ?_
    refine wpAny_bind (l1.at (wpAny_bind (l2.at ?_)))
    rw [if_neg Bool.false_ne_true]
    refine wpAny_bind (wpAny_mono z ?_ fun _ _ e => e)
    rintro v s' ⟨z, rfl, hq⟩
    exact wpAny_pure hq
  rcases h with h | h
  · have z := run_left T F hr hx I rx ry h
    obtain ⟨⟨a, dx, fs, rfl, ea⟩, hy, q⟩ := h
    obtain rfl : v = .ref a := rx
    obtain ⟨od, J⟩ := inst_of I ea
    exact fin z J.type (noI_C I.kIn N)
  · have z := run_refl T' D F' hr hx I rx ry h
    obtain ⟨⟨i, rfl⟩, _, _⟩ := h
    obtain ⟨t, rfl⟩ := rx
    exact fin z (PySem.W.Looks.of_pure rfl) (noI_int I.kIn N)

/-- abs(x), x an instance -/
def rAbsO (C : Addr) (g : Sp) (E : XK) : List V → Hp → VK → Prop := fun xs H Q => (∃ a dx fs, xs = [.ref a] ∧ H a = some (.ins C dx fs)) ∧ g xs H Q E
theorem call_absO (hs : PySem.W.findIn X.K (.ref C) "__abs__" = some (some (.ref f))) (hf : PySem.W.isFn X.K (.ref f) = true) (F : FnR X.prog X.w X.K X.mg X.base CX n f g) (hr : Room (n + 1) X.A) (hx : Passes CX X E) : CallR X (.builtin "abs") (rAbsO C g E) := by
  intro pins s σ H xs us Q I rv h
  obtain ⟨⟨a, dx, fs, rfl, ea⟩, q⟩ := h
  obtain ⟨u, rfl, ru⟩ := rv.one
  obtain rfl : u = .ref a := ru
  obtain ⟨od, J⟩ := inst_of I ea
  refine Calls.call_function_entry kind_abs plain_abs entry_abs (args_abs _) ?_
  unfold Builtin.«abs»
  refine wpAny_bind (m := oneArg "abs" _) (wpAny_pure ?_)
  refine wpAny_bind (PySem.W.special_fn (f := f) I.kIn J hs (beq_iff_eq.mp hf) ?_)
  refine wpAny_mono (wpAny_call ?_) (Q := EP X pins σ Q) (E := X.xe) ?_ fun _ _ z => z
  · refine codeAny_mono (F X.A.in1 X.stack s H [.ref a] [.ref a] Q E hr.in1 I.env0.in1 (.cons rfl .nil) q) fun rr s' hq => ?_
    cases rr with
    | error e => exact hx pins σ H s e s' I hq
    | ok fl =>
      cases fl with
      | ret u => exact I.after hq
      | next => exact False.elim hq
      | brk => exact False.elim hq
      | cont => exact False.elim hq
  · intro v s' hv
    exact wpAny_pure ⟨_, rfl, hv⟩
end
end RR
set_option maxHeartbeats 4000000
namespace RR
open PySem PySem.Spec PyProof.Rows L2

/-- C.m is a static method: its record at p, its def at g -/
structure SMet (K : PySem.W.Frag) (C : Addr) (mc : Value) (m : Str) (p g : Addr) : Prop where
  ty : PySem.W.typeIn K (.ref C) = some mc
  rd : PySem.W.readsIn K C mc = true
  ga : PySem.W.specialIn K (.ref C) "__getattribute__" = some (some (.builtin "type.__getattribute__"))
  at_ : PySem.W.findCls K (.ref C) mc m = some (.get (.builtin "staticmethod.__get__") (.ref p) .none (.ref C))
  rc : ∃ rest, PySem.W.recIn K p "staticmethod" = some (.ref g :: rest)
  kp : PySem.W.keepIn K (.ref g) = true

/-- C.m(e, ..) -/
def tSMeth (C : Addr) (g : Sp) (E : XK) (ta : TE) (t : TA) : TE := fun σ H Q => ta σ H fun x H1 => x = .ref C ∧ t σ H1 fun vs H2 => g vs H2 Q E
section
variable {X : Cx} {CX : CXT} {k : Nat} {C p f : Addr} {mc : Value} {g : Sp} {E : XK} {o e : Expr} {es : List Expr} {m : Str} {pos apos : Pos} {ta : TE} {t : TA} {pl : Sem Bool}
theorem smeth_get {pins : List (Addr × Obj)} {σ : L2.St} {H : Hp} {s : Shared} {Q : Value × List Value → Shared → Prop} {A : Around} {Er : Value → Shared → Prop} (I : Inv X pins σ H s) (T : SMet X.K C mc m p f)
    (h : ∀ s', Inv X pins σ H s' → Q (.ref f, []) s') : wpAny (model X.prog X.w) A (getMethod (.ref C) m pl) Q Er s := by
  obtain ⟨rest, hp⟩ := T.rc
  obtain ⟨mm, fr⟩ := I.fr
  exact PySem.W.method_of_cls fr I.ok.mod.kin T.ga (PySem.W.cls_sm fr I.ok.mod.kin T.ty T.rd T.at_ hp rfl (h _ (I.tok _)))
theorem pe_smeth (he : PE X o ta) (T : SMet X.K C mc m p f) (F : FnR X.prog X.w X.K X.mg X.base CX k f g) (hr : Room k X.A) (hx : Passes CX X E) (ha : PA X (e :: es) t)
    (hst : starEach (e :: es) X.env = (false, eval e X.env) :: starEach es X.env := by rfl) (hpl : (backTo pos (starEach es X.env)).any (·.1) = false := by rfl)
    (ht : eval (.Call (.Attribute o m apos) (e :: es) [] pos) X.env = (do
      let ov ← eval o X.env; standAt apos.atName; let (f, first) ← holding [ov] (getMethod ov m pl)
      callWith pos f first (backTo pos (starEach (e :: es) X.env)) (backToKw pos (keywordEach [] X.env))) := by rfl) :
    PE X (.Call (.Attribute o m apos) (e :: es) [] pos) (tSMeth C g E ta t) := by
  constructor
  intro pins s σ H Q I h
  refine PySem.W.methodCall_KW (pl := pl) (thn (he.run pins s σ H _ I h) ?_) ht
  rintro u s1 ⟨x, H1, I1, rx, rfl, q⟩
  obtain rfl : u = .ref C := rx
  refine smeth_get I1 T fun s2 I2 => ?_
  refine PySem.W.callWith_K (first := []) (h₀ := X.base) I2.ok.mod.kin T.kp (thn (ha.run pos pins s2 σ H1 _ I2 q) ?_) hst hpl
  rintro us s3 ⟨vs, H2, I3, rv, q2⟩
  exact ⟨I3.kIn, wpAny_call (run_fnR F hr hx I3 rv q2)⟩
theorem pe_smeth0 (he : PE X o ta) (T : SMet X.K C mc m p f) (F : FnR X.prog X.w X.K X.mg X.base CX k f g) (hr : Room k X.A) (hx : Passes CX X E)
    (ht : eval (.Call (.Attribute o m apos) [] [] pos) X.env = (do
      let ov ← eval o X.env; standAt apos.atName; let (f, first) ← holding [ov] (getMethod ov m pl)
      callWith pos f first (backTo pos (starEach [] X.env)) (backToKw pos (keywordEach [] X.env))) := by rfl) :
    PE X (.Call (.Attribute o m apos) [] [] pos) (tSMeth C g E ta tNil) := by
  constructor
  intro pins s σ H Q I h
  refine PySem.W.methodCall_KW (pl := pl) (thn (he.run pins s σ H _ I h) ?_) ht
  rintro u s1 ⟨x, H1, I1, rx, rfl, q⟩
  obtain rfl : u = .ref C := rx
  refine smeth_get I1 T fun s2 I2 => ?_
  exact PySem.W.callWith_K0 (first := []) I2.kIn T.kp (wpAny_call (run_fnR (us := []) (vs := []) F hr hx I2 .nil q))

/-- repr(x), x a list or tuple of data -/
def rRepr (K : PySem.W.Frag) : List V → Hp → VK → Prop := fun xs H Q => ∃ a d, xs = [.ref a] ∧ Dp K H (.ref a) d ∧ d.showable = true ∧ d.hasDict = false ∧ d.depth ≤ 20 ∧ d.shown.length ≤ sizeLine ∧ Q (.str d.shown) H
theorem call_repr (hu : X.A.units + 64 < cLine) (fr : Free X.A) : CallR X (.builtin "repr") (rRepr X.K) := by
  intro pins s σ H xs us Q I rv h
  obtain ⟨a, d, rfl, hd, hs, hnd, hdep, hl, q⟩ := h
  obtain ⟨u, rfl, ru⟩ := rv.one
  obtain rfl : u = .ref a := ru
  obtain ⟨as, hr⟩ := Dp.reads I d _ _ hd (show RelV (.ref a) (.ref a) from rfl)
  refine repr_of_reads' hr hs (PyData.noDict_hsm hnd) fr (by omega) (fun _ _ e => e) (fun h' u tk hk => ?_) hl
  exact ⟨.str d.shown, H, I.kept (t' := tk) hk, ⟨u, rfl⟩, q⟩

/-- the text of a tuple of two ints -/
def ii (a b : Int) : PyData := .tuple [.int a, .int b]
theorem ii_len {a b : Int} (ha : a.natAbs.log2 < 1920) (hb : b.natAbs.log2 < 1920) : (ii a b).shown.length ≤ sizeLine := by
  have e1 := int_text_length_le (k := 1920) (by decide) ha
  have e2 := int_text_length_le (k := 1920) (by decide) hb
  show (tupleText [Str.ofString (toString a), Str.ofString (toString b)]).length ≤ _
  unfold tupleText
  rw [strLen_append, strLen_append]
  show ((("(" : String) : Str)).length + ((Str.ofString (toString a) ++ ((", " : String) : Str) ++ Str.ofString (toString b))).length + _ ≤ _
  rw [strLen_append, strLen_append, PySem.ofString_length (toString a), PySem.ofString_length (toString b), sizeLine_eq]
  have l1 : ((("(" : String) : Str)).length = 1 := rfl
  have l2 : (((", " : String) : Str)).length = 2 := rfl
  have l3 : (((if ([Str.ofString (toString a), Str.ofString (toString b)] : List Str).length == 1 then ",)" else ")" : String) : Str)).length = 1 := rfl
  rw [l1, l2, l3]
  omega
/-- repr((i, j)), the tuple tracked -/
def rReprII (K : PySem.W.Frag) : List V → Hp → VK → Prop := fun xs H Q => ∃ p a b, xs = [.ref p] ∧ SqT K H p [.int a, .int b] ∧ a.natAbs < 2 ^ 1900 ∧ b.natAbs < 2 ^ 1900 ∧ Q (.str (ii a b).shown) H
theorem log_of {n : Nat} (h : n < 2 ^ 1900) : n.log2 < 1920 := by
  have := PySem.Flt.log2_lt_of (by decide : 0 < 1900) h
  omega
theorem call_reprII (hu : X.A.units + 64 < cLine) (fr : Free X.A) : CallR X (.builtin "repr") (rReprII X.K) := by
  intro pins s σ H xs us Q I rv h
  obtain ⟨p, a, b, rfl, ht, ha, hb, q⟩ := h
  have la := log_of ha
  have lb := log_of hb
  refine call_repr hu fr pins s σ H _ us Q I rv ⟨p, ii a b, rfl, .tup ht (.cons (.int a) (.cons (.int b) .nil)), ?_, rfl, (show 0 + 1 ≤ 20 by decide), ii_len la lb, q⟩
  show (decide (a.natAbs.log2 < 1920) && (decide (b.natAbs.log2 < 1920) && true)) = true
  rw [decide_eq_true la, decide_eq_true lb]
  rfl
end
end RR
set_option maxHeartbeats 4000000
namespace RR
open PySem PySem.Spec PyProof.Rows L2

theorem hp_new {H : Hp} {a b : Addr} {o u : HO} (h : H b = some u) (n : H a = none) : upd H a o b = some u := by rw [upd_ne (ne_of_none h n)]; exact h
theorem hp_mut {H : Hp} {a b : Addr} {o u : HO} (h : H b = some u) (n : b ≠ a) : upd H a o b = some u := by rw [upd_ne n]; exact h
theorem hp_no {H : Hp} {a b : Addr} {o : HO} (h : H b = none) (n : b ≠ a) : upd H a o b = none := by rw [upd_ne n]; exact h
theorem no_back {H : Hp} {a b : Addr} {o : HO} (h : upd H a o b = none) : b ≠ a ∧ H b = none := by
  by_cases e : b = a
  · subst e; rw [upd_same] at h; cases h
  · rw [upd_ne e] at h; exact ⟨e, h⟩

/-! ### data -/
theorem dp_ints {K : PySem.W.Frag} {H : Hp} : ∀ ns : List Int, DpAll K H (ns.map V.int) (ns.map PyData.int)
  | [] => .nil
  | n :: r => .cons (.int n) (dp_ints r)
theorem lay_ints : ∀ ns : List Int, PyData.canLayAll0 (ns.map PyData.int) = true
  | [] => rfl
  | n :: r => by show (true && PyData.canLayAll0 (r.map PyData.int)) = true; rw [lay_ints r]; rfl
theorem dep_ints : ∀ ns : List Int, PyData.depthAll (ns.map PyData.int) = 0
  | [] => rfl
  | n :: r => by show max 0 (PyData.depthAll (r.map PyData.int)) = 0; rw [dep_ints r]; rfl
theorem shaped_ints (ns : List Int) : SeqAt.shaped (.list (ns.map PyData.int)) = true := by
  unfold SeqAt.shaped
  rw [Bool.and_eq_true]
  refine ⟨lay_ints ns, ?_⟩
  show decide (PyData.depthAll (ns.map PyData.int) + 1 ≤ 64) = true
  rw [dep_ints]
  rfl
theorem eqv_nil (ns : List Int) : PyData.eqv (.list (ns.map PyData.int)) (.list []) = ns.isEmpty := by
  cases ns with
  | nil => simp only [List.map_nil, PyData.eqv, PyData.eqvAll, List.isEmpty_nil]
  | cons n r => simp only [List.map_cons, PyData.eqv, PyData.eqvAll, List.isEmpty_cons]

/-! ### numbers -/
theorem fmod_lo {a m : Int} (h : 0 < m) : 0 ≤ a.fmod m := by rw [Int.fmod_eq_emod_of_nonneg a (Int.le_of_lt h)]; exact Int.emod_nonneg a (Int.ne_of_gt h)
theorem fmod_hi {a m : Int} (h : 0 < m) : a.fmod m < m := by rw [Int.fmod_eq_emod_of_nonneg a (Int.le_of_lt h)]; exact Int.emod_lt_of_pos a h
theorem len_pos {ns : List Int} (h : (!ns.isEmpty) = true) : 0 < ((ns.map V.int).length : Int) := by
  cases ns with
  | nil => cases h
  | cons n r => rw [List.length_map]; show (0 : Int) < ((r.length + 1 : Nat) : Int); omega
theorem pow3_b {b a x y z : Int} (b0 : 0 ≤ b) (b1 : b < 2147483648) (a0 : 0 ≤ a) (a1 : a ≤ 100000) (x0 : 0 ≤ x) (x1 : x < 1000) (y0 : 0 ≤ y) (y1 : y < 100000) (z0 : 0 ≤ z) (z1 : z < 1000) : (b * (2 * a + x) + y * a * a + z).natAbs < 2 ^ 64 := by
  have e1 : 0 ≤ b * (2 * a + x) := Int.mul_nonneg b0 (by omega)
  have e2 : b * (2 * a + x) ≤ 2147483648 * 201000 := Int.mul_le_mul (by omega) (by omega) (by omega) (by omega)
  have e3 : 0 ≤ y * a := Int.mul_nonneg y0 a0
  have e4 : y * a ≤ 100000 * 100000 := Int.mul_le_mul (by omega) (by omega) (by omega) (by omega)
  have e5 : 0 ≤ y * a * a := Int.mul_nonneg e3 a0
  have e6 : y * a * a ≤ (100000 * 100000) * 100000 := Int.mul_le_mul e4 (by omega) (by omega) (by omega)
  omega
theorem at_map {ns : List Int} {i : Int} (h0 : 0 ≤ i) (h1' : i < ((ns.map V.int).length : Int)) : ∃ n, n ∈ ns ∧ atI (ns.map V.int) i = some (.int n) := by
  have h1 : i < (ns.length : Int) := by rw [List.length_map] at h1'; exact h1'
  obtain ⟨k, rfl⟩ := Int.eq_ofNat_of_zero_le h0
  have hk : k < ns.length := by omega
  refine ⟨ns[k], List.getElem_mem hk, ?_⟩
  unfold atI ixN
  rw [List.length_map, if_pos h0, if_pos h1]
  show (ns.map V.int)[(k : Int).toNat]? = _
  rw [Int.toNat_natCast, List.getElem?_map, List.getElem?_eq_getElem hk]
  rfl
theorem at_some {xs : List V} {i : Int} (h0 : 0 ≤ i) (h1 : i < xs.length) : ∃ x, x ∈ xs ∧ atI xs i = some x := by
  obtain ⟨k, rfl⟩ := Int.eq_ofNat_of_zero_le h0
  have hk : k < xs.length := by omega
  refine ⟨xs[k], List.getElem_mem hk, ?_⟩
  unfold atI ixN
  rw [if_pos h0, if_pos h1]
  show xs[(k : Int).toNat]? = _
  rw [Int.toNat_natCast, List.getElem?_eq_getElem hk]

/-! ### the pen -/
/-- the pen: its cells, the index of the next one, what is left of a great one -/
def pen (c : Addr) (a g : Int) : HO := .lst [.ref c, .int a, .int g]
structure PenAt (H : Hp) (p c : Addr) (ns : List Int) (a g : Int) : Prop where
  pn : H p = some (.lst [.ref c, .int a, .int g])
  cs : H c = some (.lst (ns.map V.int))
  la : 0 ≤ a
  lb : a ≤ 100000
  ln : ns.length ≤ 63
theorem PenAt.ne {H : Hp} {p c : Addr} {ns : List Int} {a g : Int} (W : PenAt H p c ns a g) : c ≠ p := by
  refine ne_of W.cs W.pn fun z => ?_
  have z' := HO.lst.inj z
  cases ns with
  | nil => cases z'
  | cons n r => cases (List.cons.inj z').1
/-- all that was tracked stands as it was, but p -/
def Keep (p : Addr) (H H' : Hp) : Prop := ∀ b o, H b = some o → b ≠ p → H' b = some o
theorem Keep.refl (p : Addr) (H : Hp) : Keep p H H := fun _ _ h _ => h
theorem Keep.trans {p : Addr} {H H1 H2 : Hp} (a : Keep p H H1) (b : Keep p H1 H2) : Keep p H H2 := fun x o h n => b x o (a x o h n) n
theorem Keep.of {p : Addr} {H H' : Hp} (a : Same H H') : Keep p H H' := fun x o h _ => a x o h
theorem Keep.new {p q : Addr} {H H1 : Hp} {o : HO} (a : Keep p H H1) (n : H1 q = none) : Keep p H (upd H1 q o) := fun x u h e => hp_new (a x u h e) n
/-- the pen behind a draw -/
theorem PenAt.next {H H' : Hp} {p c : Addr} {ns : List Int} {a g a' g' : Int} (W : PenAt H p c ns a g) (h0 : a ≤ a') (h1 : a' ≤ 100000) (hp : H' p = some (pen c a' g')) (k : Keep p H H') : PenAt H' p c ns a' g' :=
  ⟨hp, k _ _ W.cs W.ne, Int.le_trans W.la h0, h1, W.ln⟩
theorem PenAt.keep {H H' : Hp} {p c : Addr} {ns : List Int} {a g : Int} (W : PenAt H p c ns a g) (k : Same H H') : PenAt H' p c ns a g := ⟨k _ _ W.pn, k _ _ W.cs, W.la, W.lb, W.ln⟩
def spDraw : Sp := fun vs H Q _ => ∃ p c ns a g m, vs = [.ref p, .int m] ∧ 0 < m ∧ m < 1000000 ∧ PenAt H p c ns a g ∧ ∀ d a' g' H', H' p = some (pen c a' g') → Keep p H H' → 0 ≤ d → d < m → a ≤ a' → a' ≤ a + 1 → Q (.int d) H'
/-- one of some things -/
def spPick (K : PySem.W.Frag) : Sp := fun vs H Q _ => ∃ p q c ns a g xs, vs = [.ref p, .ref q] ∧ PenAt H p c ns a g ∧ H q = some (.lst xs) ∧ q ≠ p ∧ 0 < xs.length ∧ xs.length < 1000 ∧
  ∀ x a' g' H', H' p = some (pen c a' g') → Keep p H H' → x ∈ xs → a ≤ a' → a' ≤ a + 1 → Q x H'
def spPen (K : PySem.W.Frag) : Sp := fun vs H Q _ => ∃ (a : Addr) (ns : List Int), vs = [.ref a] ∧ SqL K H a (ns.map V.int) ∧ ns.length ≤ 63 ∧ ∀ p c H', Same H H' → H p = none → H c = none → PenAt H' p c ns 0 0 → Q (.ref p) H'
end RR
namespace RR
open PySem PySem.Spec PyProof.Rows L2
section
variable {X : Cx}
/-- a % m, of which the bounds alone are told -/
def rModL : R2 := fun x y H Q => ∃ i j, x = .int i ∧ y = .int j ∧ 0 < j ∧ ∀ r, 0 ≤ r → r < j → Q (.int r) H
theorem op_modL : OpR X (binaryOp .Mod) rModL := by
  intro pins s σ H x y v u Q I rx ry h
  obtain ⟨i, j, rfl, rfl, hj, q⟩ := h
  exact op_modN pins s σ H _ _ v u Q I rx ry ⟨i, j, rfl, rfl, Int.ne_of_gt hj, q _ (fmod_lo hj) (fmod_hi hj)⟩
/-- a // m, a ** n, of which nothing is told -/
def rDivL : R2 := fun x y H Q => ∃ i j, x = .int i ∧ y = .int j ∧ (j ≠ 0 ∧ j.natAbs < 1073741824) ∧ ∀ r, Q (.int r) H
theorem op_divL : OpR X (binaryOp .FloorDiv) rDivL := by
  intro pins s σ H x y v u Q I rx ry h
  obtain ⟨i, j, rfl, rfl, hj, q⟩ := h
  exact op_fdivN pins s σ H _ _ v u Q I rx ry ⟨i, j, rfl, rfl, hj, q _⟩
def rPowL : R2 := fun x y H Q => ∃ i j, x = .int i ∧ y = .int j ∧ CPow i j ∧ ∀ r, Q (.int r) H
theorem op_powL : OpR X (binaryOp .Pow) rPowL := by
  intro pins s σ H x y v u Q I rx ry h
  obtain ⟨i, j, rfl, rfl, hj, q⟩ := h
  exact op_pow pins s σ H _ _ v u Q I rx ry ⟨i, j, rfl, rfl, hj, q _⟩
/-- c * a, c a small number that is written, or known to be small -/
def rMulL : R2 := fun x y H Q => ∃ i j, x = .int i ∧ y = .int j ∧ (-18446744073709551616 < i ∧ i < 18446744073709551616) ∧ Q (.int (i * j)) H
theorem op_mulL : OpR X (binaryOp .Mult) rMulL := by
  intro pins s σ H x y v u Q I rx ry h
  obtain ⟨i, j, rfl, rfl, hj, q⟩ := h
  exact op_mul pins s σ H _ _ v u Q I rx ry ⟨i, j, rfl, rfl, .inl hj, q⟩
end
end RR
set_option maxHeartbeats 4000000
namespace RR
open PySem PySem.Spec PyProof.Rows L2

/-! ### fractions -/
def gd (t b : Int) : Int := ((Nat.gcd t.natAbs b.natAbs : Nat) : Int)
/-- a fraction in lowest terms -/
def lo (t b : Int) : Int := t / gd t b
def lb (t b : Int) : Int := b / gd t b
theorem gd_pos {t b : Int} (h : 0 < b) : 0 < gd t b := by
  unfold gd
  have : 0 < Nat.gcd t.natAbs b.natAbs := Nat.gcd_pos_of_pos_right _ (by omega)
  omega
theorem gd_le {t b : Int} (h : 0 < b) : gd t b ≤ b := by
  unfold gd
  have : Nat.gcd t.natAbs b.natAbs ≤ b.natAbs := Nat.gcd_le_right _ (by omega)
  omega
theorem gd_dvd_l (t b : Int) : gd t b ∣ t := by
  unfold gd
  exact Int.ofNat_dvd_left.mpr (Nat.gcd_dvd_left _ _)
theorem gd_dvd_r (t b : Int) : gd t b ∣ b := by
  unfold gd
  exact Int.ofNat_dvd_left.mpr (Nat.gcd_dvd_right _ _)
theorem lb_pos {t b : Int} (h : 0 < b) : 0 < lb t b := Int.ediv_pos_of_pos_of_dvd h (Int.le_of_lt (gd_pos h)) (gd_dvd_r t b)
theorem div_small {t g : Int} {n : Nat} (h : t.natAbs < 2 ^ n) (g0 : 0 < g) (d : g ∣ t) : (t / g).natAbs < 2 ^ n := by
  refine Nat.lt_of_le_of_lt ?_ h
  obtain ⟨k, rfl⟩ := d
  rw [Int.mul_ediv_cancel_left k (Int.ne_of_gt g0), Int.natAbs_mul]
  exact Nat.le_mul_of_pos_left _ (by omega)
theorem lo_small {t b : Int} {n : Nat} (h : t.natAbs < 2 ^ n) (b0 : 0 < b) : (lo t b).natAbs < 2 ^ n := div_small h (gd_pos b0) (gd_dvd_l t b)
theorem lb_small {t b : Int} {n : Nat} (h : b.natAbs < 2 ^ n) (b0 : 0 < b) : (lb t b).natAbs < 2 ^ n := div_small h (gd_pos b0) (gd_dvd_r t b)
/-- in lowest terms -/
def Low (t b : Int) : Prop := 0 < b ∧ gd t b = 1
theorem low_lo {t b : Int} (h : Low t b) : lo t b = t := by unfold lo; rw [h.2]; exact Int.ediv_one t
theorem low_lb {t b : Int} (h : Low t b) : lb t b = b := by unfold lb; rw [h.2]; exact Int.ediv_one b
theorem low_one (t : Int) : Low t 1 := ⟨by decide, by unfold gd; rw [show (1 : Int).natAbs = 1 from rfl, Nat.gcd_one_right]; rfl⟩
theorem gd_neg (t b : Int) : gd (-t) b = gd t b := by unfold gd; rw [Int.natAbs_neg]
theorem low_neg {t b : Int} (h : Low t b) : Low (-t) b := ⟨h.1, by rw [gd_neg]; exact h.2⟩
theorem low_abs {t b : Int} (h : Low t b) : Low (if t < 0 then -t else t) b := by
  split
  · exact low_neg h
  · exact h
theorem low_of {t b : Int} (h : 0 < b) : Low (lo t b) (lb t b) := by
  refine ⟨lb_pos h, ?_⟩
  have g0 : 0 < Nat.gcd t.natAbs b.natAbs := Nat.gcd_pos_of_pos_right _ (by omega)
  have e1 : (lo t b).natAbs = t.natAbs / Nat.gcd t.natAbs b.natAbs := by
    obtain ⟨k, hk⟩ := gd_dvd_l t b
    unfold lo
    have gp := gd_pos (t := t) h
    conv => lhs; rw [hk]
    rw [show gd t b * k / gd (gd t b * k) b = gd t b * k / gd t b by rw [← hk]]
    rw [Int.mul_ediv_cancel_left k (Int.ne_of_gt gp)]
    have e : t.natAbs = Nat.gcd t.natAbs b.natAbs * k.natAbs := by
      conv => lhs; rw [hk, Int.natAbs_mul]
      unfold gd; rw [Int.natAbs_natCast]
    rw [e]
    rw [show Nat.gcd (Nat.gcd t.natAbs b.natAbs * k.natAbs) b.natAbs = Nat.gcd t.natAbs b.natAbs by rw [← e]]
    rw [Nat.mul_div_cancel_left _ g0]
  have e2 : (lb t b).natAbs = b.natAbs / Nat.gcd t.natAbs b.natAbs := by
    obtain ⟨k, hk⟩ := gd_dvd_r t b
    unfold lb
    have gp := gd_pos (t := t) h
    conv => lhs; rw [hk]
    rw [show gd t b * k / gd t (gd t b * k) = gd t b * k / gd t b by rw [← hk]]
    rw [Int.mul_ediv_cancel_left k (Int.ne_of_gt gp)]
    have e : b.natAbs = Nat.gcd t.natAbs b.natAbs * k.natAbs := by
      conv => lhs; rw [hk, Int.natAbs_mul]
      unfold gd; rw [Int.natAbs_natCast]
    rw [e]
    rw [show Nat.gcd t.natAbs (Nat.gcd t.natAbs b.natAbs * k.natAbs) = Nat.gcd t.natAbs b.natAbs by rw [← e]]
    rw [Nat.mul_div_cancel_left _ g0]
  unfold gd
  rw [e1, e2, Nat.gcd_div (Nat.gcd_dvd_left _ _) (Nat.gcd_dvd_right _ _), Nat.div_self g0]
  rfl
theorem gd_zero {b : Int} (h : 0 < b) : gd 0 b = b := by
  unfold gd
  rw [show (0 : Int).natAbs = 0 from rfl, Nat.gcd_zero_left]
  omega
theorem lo_zero {b : Int} : lo 0 b = 0 := by unfold lo; exact Int.zero_ediv _
theorem lb_zero {b : Int} (h : 0 < b) : lb 0 b = 1 := by unfold lb; rw [gd_zero h]; exact Int.ediv_self (Int.ne_of_gt h)

/-- a number that the programs reckon with -/
abbrev Sm (n : Nat) (i : Int) : Prop := i.natAbs < 2 ^ n
theorem sm_mono {m n : Nat} {i : Int} (h : Sm m i) (l : m ≤ n) : Sm n i := Nat.lt_of_lt_of_le h (Nat.pow_le_pow_right (by decide) l)
theorem sm_mul {m n : Nat} {i j : Int} (h : Sm m i) (k : Sm n j) : Sm (m + n) (i * j) := wide_lt h k
theorem sm_add {m : Nat} {i j : Int} (h : Sm m i) (k : Sm m j) : Sm (m + 1) (i + j) := by
  have e : 2 ^ (m + 1) = 2 ^ m + 2 ^ m := by rw [Nat.pow_succ]; omega
  have h' : i.natAbs < 2 ^ m := h
  have k' : j.natAbs < 2 ^ m := k
  show (i + j).natAbs < 2 ^ (m + 1)
  omega
theorem sm_neg {m : Nat} {i : Int} (h : Sm m i) : Sm m (-i) := by show (-i).natAbs < _; rw [Int.natAbs_neg]; exact h
theorem sm_sub {m : Nat} {i j : Int} (h : Sm m i) (k : Sm m j) : Sm (m + 1) (i - j) := by rw [Int.sub_eq_add_neg]; exact sm_add h (sm_neg k)
theorem sm_cmul {m n : Nat} {i j : Int} (h : Sm m i) (k : Sm n j) (hm : m + n ≤ 1000000) (m0 : 0 < m) (n0 : 0 < n) : CMulW i j := wide_mul h k m0 n0 hm

/-! ### a Ratio -/
def rfs (t b : Int) : List (Str × V) := [("top", .int t), ("bottom", .int b)]
def RatAt (C : Addr) (H : Hp) (x : Addr) (t b : Int) : Prop := ∃ dx, H x = some (.ins C dx (rfs t b))
theorem RatAt.same {C x : Addr} {H H' : Hp} {t b : Int} (h : RatAt C H x t b) (s : Same H H') : RatAt C H' x t b := h.elim fun dx e => ⟨dx, s _ _ e⟩
/-- a Ratio, or an int that stands for one -/
def NumV (C : Addr) (H : Hp) (v : V) (t b : Int) : Prop := (∃ a, v = .ref a ∧ RatAt C H a t b) ∨ (v = .int t ∧ b = 1)
theorem NumV.same {C : Addr} {H H' : Hp} {v : V} {t b : Int} (h : NumV C H v t b) (s : Same H H') : NumV C H' v t b := by
  rcases h with ⟨a, e, r⟩ | h
  · exact .inl ⟨a, e, r.same s⟩
  · exact .inr h
theorem NumV.intOr {C : Addr} {H : Hp} {v : V} {t b : Int} (h : NumV C H v t b) : IntOr C H v := by
  rcases h with ⟨a, rfl, dx, e⟩ | ⟨rfl, _⟩
  · exact .inr ⟨a, dx, _, rfl, e⟩
  · exact .inl ⟨t, rfl⟩
/-- what a new Ratio is -/
abbrev NewR (C : Addr) (H : Hp) (Q : VK) (t b : Int) : Prop := ∀ a H', Same H H' → RatAt C H' a t b → Q (.ref a) H'
def spInit (C : Addr) : Sp := fun vs H Q _ => ∃ x dx t b, vs = [.ref x, .int t, .int b] ∧ H x = some (.ins C dx []) ∧ 0 < b ∧ Sm 5000 t ∧ Sm 5000 b ∧ Q .non (upd (upd H x (.ins C dx [("top", .int (lo t b))])) x (.ins C dx (rfs (lo t b) (lb t b))))
def spIsInt : Sp := fun vs H Q _ => ∃ i, vs = [.int i] ∧ Q (.bl true) H
def spOf (C : Addr) : Sp := fun vs H Q _ => ∃ v t b, vs = [v] ∧ NumV C H v t b ∧ Sm 5000 t ∧ NewR C H Q t b
def spEndless (C : Addr) : Sp := fun vs H Q _ => ∃ x t b, vs = [.ref x] ∧ RatAt C H x t b ∧ Q (.bl (decide (b = 0))) H
/-- x op y: F and G reckon with both fractions -/
def spBin (C : Addr) (F G : Int → Int → Int → Int → Int) : Sp := fun vs H Q _ => ∃ x y t b u d, vs = [.ref x, y] ∧ RatAt C H x t b ∧ NumV C H y u d ∧ 0 < b ∧ 0 < d ∧ Sm 1000 t ∧ Sm 1000 b ∧ Sm 1000 u ∧ Sm 1000 d ∧ NewR C H Q (lo (F t b u d) (G t b u d)) (lb (F t b u d) (G t b u d))
def fAdd (t b u d : Int) : Int := t * d + u * b
def fSub (t b u d : Int) : Int := t * d - u * b
def fRsub (t b u d : Int) : Int := u * b - t * d
def fMul (t b u d : Int) : Int := t * u
def gAll (t b u d : Int) : Int := b * d
def gRev (t b u d : Int) : Int := d * b
def spNeg (C : Addr) : Sp := fun vs H Q _ => ∃ x t b, vs = [.ref x] ∧ RatAt C H x t b ∧ 0 < b ∧ Sm 1000 t ∧ Sm 1000 b ∧ NewR C H Q (lo (-t) b) (lb (-t) b)
def spLt (C : Addr) : Sp := fun vs H Q _ => ∃ x y t b u d, vs = [.ref x, y] ∧ RatAt C H x t b ∧ NumV C H y u d ∧ Sm 1000 t ∧ Sm 1000 b ∧ Sm 1000 u ∧ Sm 1000 d ∧ ∀ H', Same H H' → Q (.bl (decide (t * d < u * b))) H'
def spAbs (C : Addr) : Sp := fun vs H Q _ => ∃ x t b, vs = [.ref x] ∧ RatAt C H x t b ∧ Low t b ∧ Sm 1000 t ∧ Sm 1000 b ∧ NewR C H Q (if t < 0 then -t else t) b
/-- Ratio(t, b) -/
theorem mkR {C : Addr} {H : Hp} {Q : VK} {t b : Int} {E : XK} (b0 : 0 < b) (st : Sm 5000 t) (sb : Sm 5000 b) (k : NewR C H Q (lo t b) (lb t b)) :
    ∀ x dx, H x = none → H dx = none → dx ≠ x → spInit C [.ref x, .int t, .int b] (upd (upd H dx (.own x)) x (.ins C dx [])) (fun v H2 => v = .non ∧ Q (.ref x) H2) E := by
  intro x dx nx nd ne
  refine ⟨x, dx, t, b, rfl, upd_same, b0, st, sb, rfl, k x _ (fun a o e => ?_) ⟨dx, upd_same⟩⟩
  have h1 : a ≠ x := ne_of_none e nx
  rw [upd_ne h1, upd_ne h1, upd_ne h1, upd_ne (ne_of_none e nd)]
  exact e
end RR
namespace RR
open PySem PySem.Spec PyProof.Rows L2
theorem put_top (v : V) : putF "top" v [] = [(("top" : Str), v)] := rfl
theorem put_bottom (v w : V) : putF "bottom" w [(("top" : Str), v)] = [(("top" : Str), v), ("bottom", w)] := by
  show (if ("top" : Str) = "bottom" then [(("bottom" : Str), w)] else (("top" : Str), v) :: putF "bottom" w []) = _
  rw [if_neg (by decide +kernel : ¬ ("top" : Str) = "bottom")]
  rfl
theorem rfs_top (t b : Int) : (rfs t b).lookup ("top" : Str) = some (.int t) := rfl
theorem rfs_bottom (t b : Int) : (rfs t b).lookup ("bottom" : Str) = some (.int b) := by
  show (match ("bottom" : Str) == "top" with | true => some (V.int t) | false => ([(("bottom" : Str), V.int b)]).lookup ("bottom" : Str)) = _
  rw [show (("bottom" : Str) == "top") = false from by decide +kernel]
  rfl
end RR
namespace RR
open PySem PySem.Spec PyProof.Rows L2
/-- what the text says of the class Ratio -/
structure RC (K : PySem.W.Frag) (C : Addr) : Prop where
  cls : Cls K C
  nT : NoAttr K C "top"
  nB : NoAttr K C "bottom"
  ca : PySem.W.findIn K (.ref C) "__class__" = some (some (.builtin "object.__class__"))
  cn : PySem.W.specialIn K (.builtin "object.__class__") "__get__" = some (some (.builtin "getset_descriptor.__get__"))
  ct : PySem.W.takesIn K (.builtin "object.__class__") = some true
  cm : PySem.W.mroIn K C (.type "object") = some true
  k0 : PySem.W.kitOne K (.type "int") (.ref C) = some false
theorem RC.ty {K : PySem.W.Frag} {C a dx : Addr} {H : Hp} {fs : List (Str × V)} (T : RC K C) (e : H a = some (.ins C dx fs)) : TyX K H (.ref a) (.ref C) := .base (.ins e T.cls T.ca T.cn T.ct T.cm)
theorem kit_self {K : PySem.W.Frag} {C : Addr} : PySem.W.kitOne K (.ref C) (.ref C) = some true := if_pos (by simp)
theorem dec_int (a b : Int) : decide (V.int a = V.int b) = decide (a = b) := by
  by_cases h : a = b
  · subst h; simp
  · rw [decide_eq_false h, decide_eq_false fun z => h (V.int.inj z)]
theorem no_if {c A B : Prop} [Decidable c] (h : ¬ c) (b : B) : if c then A else B := by rw [if_neg h]; exact b
theorem dec_no {p : Prop} [Decidable p] (h : ¬ p) : ¬ decide p = true := fun z => h (of_decide_eq_true z)
end RR
namespace RR
theorem sm_0 {n : Nat} : Sm n 0 := Nat.two_pow_pos n
theorem sm_1 {n : Nat} (h : 0 < n) : Sm n 1 := Nat.lt_of_lt_of_le (show 1 < 2 ^ 1 by decide) (Nat.pow_le_pow_right (by decide) h)
end RR
set_option maxHeartbeats 4000000
namespace RR
open PySem PySem.Spec PyProof.Rows L2

theorem Same.at {H H' : Hp} {b : Addr} {o : HO} (s : Same H H') (h : H b = some o) : H' b = some o := s b o h
theorem Same.new {H : Hp} {p : Addr} {o : HO} (n : H p = none) : Same H (upd H p o) := fun _ _ e => hp_new e n
theorem same_new {H H1 : Hp} {p : Addr} {o : HO} (s : Same H H1) (n : H1 p = none) : Same H (upd H1 p o) := s.trans (Same.new n)
/-- an object that H does not know may change -/
theorem same_mut {H H1 : Hp} {p : Addr} {o : HO} (s : Same H H1) (n : H p = none) : Same H (upd H1 p o) := fun b u e => by
  rw [upd_ne (ne_of_none e n)]
  exact s b u e
theorem same_free {H H1 : Hp} {p : Addr} (s : Same H H1) (n : H1 p = none) : H p = none := s.free n

/-- a pair -/
abbrev Pr (H : Hp) (p : Addr) (t b : Int) : Prop := H p = some (.tup [.int t, .int b])
/-- a value is the ratio of a pair -/
def Fits (C : Addr) (H : Hp) (x y : V) : Prop := ∃ a p t b, x = .ref a ∧ y = .ref p ∧ RatAt C H a t b ∧ Pr H p t b ∧ Sm 1900 t ∧ Sm 1900 b
theorem Fits.same {C : Addr} {H H' : Hp} {x y : V} (h : Fits C H x y) (s : Same H H') : Fits C H' x y := by
  obtain ⟨a, p, t, b, e1, e2, r, q, st, sb⟩ := h
  exact ⟨a, p, t, b, e1, e2, r.same s, s _ _ q, st, sb⟩
inductive AreL (C : Addr) (H : Hp) : List V → List V → Prop
  | nil : AreL C H [] []
  | cons {x y : V} {xs ys : List V} : Fits C H x y → AreL C H xs ys → AreL C H (x :: xs) (y :: ys)
theorem AreL.len {C : Addr} {H : Hp} : ∀ {xs ys : List V}, AreL C H xs ys → xs.length = ys.length
  | _, _, .nil => rfl
  | _, _, .cons _ h => congrArg Nat.succ h.len
theorem AreL.same {C : Addr} {H H' : Hp} (s : Same H H') : ∀ {xs ys : List V}, AreL C H xs ys → AreL C H' xs ys
  | _, _, .nil => .nil
  | _, _, .cons f h => .cons (f.same s) (h.same s)
theorem AreL.get {C : Addr} {H : Hp} : ∀ {xs ys : List V}, AreL C H xs ys → ∀ i, i < ys.length → ∃ x y, xs[i]? = some x ∧ ys[i]? = some y ∧ Fits C H x y
  | _, _, .nil, i, h => absurd h (Nat.not_lt_zero i)
  | _, _, .cons (x := x) (y := y) f h, 0, _ => ⟨x, y, rfl, rfl, f⟩
  | _, _, .cons f h, i + 1, l => h.get i (Nat.lt_of_succ_lt_succ l)

def spLow : Sp := fun vs H Q _ => ∃ u l, vs = [.int u, .int l] ∧ 0 < l ∧ Sm 5000 l ∧ Sm 5000 u ∧ ∀ p H', Same H H' → H p = none → Pr H' p (lo u l) (lb u l) → Q (.ref p) H'
def spIs (C : Addr) : Sp := fun vs H Q _ => ∃ x y, vs = [x, y] ∧ Fits C H x y ∧ ∀ H', Same H H' → Q (.bl true) H'
def spMade (C : Addr) : Sp := fun vs H Q _ => ∃ p t b, vs = [.ref p] ∧ Pr H p t b ∧ Low t b ∧ Sm 5000 t ∧ Sm 5000 b ∧ NewR C H Q t b
def spFrac : Sp := fun vs H Q _ => ∃ p c ns a g, vs = [.ref p] ∧ PenAt H p c ns a g ∧ a ≤ 99000 ∧ ∀ q t b a' g' H', H' p = some (pen c a' g') → Keep p H H' → H q = none → Pr H' q t b → Low t b → Sm 100 t → Sm 100 b → a ≤ a' → a' ≤ a + 5 → Q (.ref q) H'
/-- the sum, the difference and the product as pairs -/
def spResults : Sp := fun vs H Q _ => ∃ p1 p2 t b u d, vs = [.ref p1, .ref p2] ∧ Pr H p1 t b ∧ Pr H p2 u d ∧ 0 < b ∧ 0 < d ∧ Sm 1000 t ∧ Sm 1000 b ∧ Sm 1000 u ∧ Sm 1000 d ∧
  ∀ q q1 q2 q3 H', Same H H' → H' q = some (.lst [.ref q1, .ref q2, .ref q3]) → Pr H' q1 (lo (fAdd t b u d) (gAll t b u d)) (lb (fAdd t b u d) (gAll t b u d)) →
    Pr H' q2 (lo (fSub t b u d) (gAll t b u d)) (lb (fSub t b u d) (gAll t b u d)) → Pr H' q3 (lo (fMul t b u d) (gAll t b u d)) (lb (fMul t b u d) (gAll t b u d)) → Q (.ref q) H'
structure AreW (C : Addr) (vs : List V) (H : Hp) (Q : VK) : Prop where
  ex : ∃ p q xs ys, vs = [.ref p, .ref q] ∧ H p = some (.lst xs) ∧ H q = some (.lst ys) ∧ ys.length < 1000 ∧ AreL C H xs ys ∧ ∀ H', Same H H' → Q (.bl true) H'
def spAre (C : Addr) : Sp := fun vs H Q _ => AreW C vs H Q
/-- what += , -= and *= make -/
def spPlace (C : Addr) : Sp := fun vs H Q _ => ∃ x y t b u d, vs = [x, y] ∧ NumV C H x t b ∧ NumV C H y u d ∧ ((∃ a, x = .ref a) ∨ ∃ a, y = .ref a) ∧ 0 < b ∧ 0 < d ∧ Sm 1000 t ∧ Sm 1000 b ∧ Sm 1000 u ∧ Sm 1000 d ∧
  ∀ q q1 q2 q3 H', Same H H' → H' q = some (.lst [.ref q1, .ref q2, .ref q3]) → RatAt C H' q1 (lo (fAdd t b u d) (gAll t b u d)) (lb (fAdd t b u d) (gAll t b u d)) →
    RatAt C H' q2 (lo (fSub t b u d) (gAll t b u d)) (lb (fSub t b u d) (gAll t b u d)) → RatAt C H' q3 (lo (fMul t b u d) (gAll t b u d)) (lb (fMul t b u d) (gAll t b u d)) → Q (.ref q) H'
def spPair : Sp := fun vs H Q _ => ∃ p1 p2 t b u d, vs = [.ref p1, .ref p2] ∧ Pr H p1 t b ∧ Pr H p2 u d ∧ Low t b ∧ Low u d ∧ Sm 100 t ∧ Sm 100 b ∧ Sm 100 u ∧ Sm 100 d ∧ ∀ H', Same H H' → Q (.bl true) H'
def spAlone : Sp := fun vs H Q _ => ∃ p t b, vs = [.ref p] ∧ Pr H p t b ∧ Low t b ∧ Sm 100 t ∧ Sm 100 b ∧ ∀ H', Same H H' → Q (.bl true) H'
def spLaw (K : PySem.W.Frag) : Sp := fun vs H Q _ => ∃ (a : Addr) (ns : List Int), vs = [.ref a] ∧ SqL K H a (ns.map V.int) ∧ ns.length ≤ 63 ∧ ∀ H', Q (.bl true) H'

/-! ### reckoning with either order -/
theorem add_comm4 (t b u d : Int) : fAdd t b u d = fAdd u d t b := by unfold fAdd; omega
theorem gall_comm (t b u d : Int) : gAll t b u d = gAll u d t b := by unfold gAll; rw [Int.mul_comm]
theorem mul_comm4 (t b u d : Int) : fMul t b u d = fMul u d t b := by unfold fMul; rw [Int.mul_comm]
theorem rsub_eq (t b u d : Int) : fRsub t b u d = fSub u d t b := rfl
theorem grev_eq (t b u d : Int) : gRev t b u d = gAll u d t b := rfl

/-- x op y of a Ratio and a number, on either side -/
theorem opL {C : Addr} {H : Hp} {Q : VK} {E : XK} {F G : Int → Int → Int → Int → Int} {a : Addr} {y : V} {t b u d : Int} (r : RatAt C H a t b) (n : NumV C H y u d) (b0 : 0 < b) (d0 : 0 < d) (st : Sm 1000 t) (sb : Sm 1000 b) (su : Sm 1000 u) (sd : Sm 1000 d)
    (k : NewR C H Q (lo (F t b u d) (G t b u d)) (lb (F t b u d) (G t b u d))) : rOpL C (spBin C F G) E (.ref a) y H Q := by
  obtain ⟨dx, e⟩ := r
  exact ⟨⟨a, dx, _, rfl, e⟩, n.intOr, a, y, t, b, u, d, rfl, ⟨dx, e⟩, n, b0, d0, st, sb, su, sd, k⟩
theorem opR {C : Addr} {H : Hp} {Q : VK} {E : XK} {F G : Int → Int → Int → Int → Int} {a : Addr} {n t b : Int} (r : RatAt C H a t b) (b0 : 0 < b) (st : Sm 1000 t) (sb : Sm 1000 b) (sn : Sm 1000 n)
    (k : NewR C H Q (lo (F t b n 1) (G t b n 1)) (lb (F t b n 1) (G t b n 1))) : rOpR C (spBin C F G) E (.int n) (.ref a) H Q := by
  obtain ⟨dx, e⟩ := r
  exact ⟨⟨n, rfl⟩, ⟨a, dx, _, rfl, e⟩, a, .int n, t, b, n, 1, rfl, ⟨dx, e⟩, .inr ⟨rfl, rfl⟩, b0, by decide, st, sb, sn, sm_1 (by decide), k⟩
theorem opI {C : Addr} {H : Hp} {Q : VK} {E : XK} {F G F' G' : Int → Int → Int → Int → Int} (hF : ∀ t b u d, F' t b u d = F u d t b) (hG : ∀ t b u d, G' t b u d = G u d t b) {x y : V} {t b u d : Int} (r : NumV C H x t b) (n : NumV C H y u d)
    (or : (∃ a, x = .ref a) ∨ ∃ a, y = .ref a) (b0 : 0 < b) (d0 : 0 < d) (st : Sm 1000 t) (sb : Sm 1000 b) (su : Sm 1000 u) (sd : Sm 1000 d) (k : NewR C H Q (lo (F t b u d) (G t b u d)) (lb (F t b u d) (G t b u d))) :
    rOpI C (spBin C F G) (spBin C F' G') E x y H Q := by
  rcases r with ⟨a, rfl, r⟩ | ⟨rfl, rfl⟩
  · exact .inl (opL r n b0 d0 st sb su sd k)
  · rcases n with ⟨a, rfl, r⟩ | ⟨rfl, rfl⟩
    · refine .inr (opR r d0 su sd st ?_)
      rw [hF, hG]
      exact k
    · rcases or with ⟨a, z⟩ | ⟨a, z⟩ <;> cases z
end RR
namespace RR
open PySem PySem.Spec PyProof.Rows L2
theorem cut63 {ns : List Int} (h : ns.length ≤ 63) : cutV (ns.map V.int) none (some 63) = ns.map V.int := by
  unfold cutV
  have e1 : HT.sIx (ns.map V.int).length 0 none = 0 := rfl
  have e2 : HT.sIx (ns.map V.int).length (ns.map V.int).length (some 63) = ns.length := by
    have z := HT.sIx_nat (ns.map V.int).length (ns.map V.int).length 63
    rw [List.length_map] at z ⊢
    rw [show ((63 : Nat) : Int) = 63 from rfl] at z
    rw [z]
    omega
  rw [e1, e2, List.drop_zero, Nat.sub_zero]
  exact List.take_of_length_le (by rw [List.length_map]; exact Nat.le_refl _)
theorem gcd_step {f s : Int} (f0 : 0 ≤ f) (s0 : 0 < s) : Nat.gcd s.natAbs (f % s).natAbs = Nat.gcd f.natAbs s.natAbs := by
  obtain ⟨a, rfl⟩ := Int.eq_ofNat_of_zero_le f0
  obtain ⟨b, rfl⟩ := Int.eq_ofNat_of_zero_le (Int.le_of_lt s0)
  rw [← Int.natCast_emod, Int.natAbs_natCast, Int.natAbs_natCast, Int.natAbs_natCast, Nat.gcd_comm a b, Nat.gcd_rec b a, Nat.gcd_comm]
end RR
namespace RR
open PySem PySem.Spec PyProof.Rows L2
/-- a list of ints of which P holds -/
def AllI (P : Int → Prop) (xs : List V) : Prop := ∀ x ∈ xs, ∃ n, x = .int n ∧ P n
theorem allI_nil {P : Int → Prop} : AllI P [] := fun _ h => by cases h
theorem allI_cons {P : Int → Prop} {n : Int} {xs : List V} (h : P n) (t : AllI P xs) : AllI P (.int n :: xs) := fun x hx => by
  rcases List.mem_cons.mp hx with rfl | hx
  · exact ⟨n, rfl, h⟩
  · exact t x hx
theorem sm_low {d m : Int} {n : Nat} (d0 : 0 ≤ d) (d1 : d < m) (h : Sm n m) : Sm n d := by
  have h' : m.natAbs < 2 ^ n := h
  show d.natAbs < 2 ^ n
  omega
theorem sign_cases (k : Bool) : (1 - 2 * (if k = true then 1 else 0) : Int) = 1 ∨ (1 - 2 * (if k = true then 1 else 0) : Int) = -1 := by cases k <;> simp
theorem sm_sign {s n : Int} {m : Nat} (h : s = 1 ∨ s = -1) (k : Sm m n) : Sm m (s * n) := by
  rcases h with rfl | rfl
  · rw [Int.one_mul]; exact k
  · rw [Int.neg_mul, Int.one_mul]; exact sm_neg k
end RR
namespace RR
open PySem PySem.Spec PyProof.Rows L2
/-- three pairs; three ratios -/
def ResP (H : Hp) (q : Addr) (t b u d : Int) : Prop := ∃ q1 q2 q3, H q = some (.lst [.ref q1, .ref q2, .ref q3]) ∧ Pr H q1 (lo (fAdd t b u d) (gAll t b u d)) (lb (fAdd t b u d) (gAll t b u d)) ∧
  Pr H q2 (lo (fSub t b u d) (gAll t b u d)) (lb (fSub t b u d) (gAll t b u d)) ∧ Pr H q3 (lo (fMul t b u d) (gAll t b u d)) (lb (fMul t b u d) (gAll t b u d))
def ResR (C : Addr) (H : Hp) (q : Addr) (t b u d : Int) : Prop := ∃ q1 q2 q3, H q = some (.lst [.ref q1, .ref q2, .ref q3]) ∧ RatAt C H q1 (lo (fAdd t b u d) (gAll t b u d)) (lb (fAdd t b u d) (gAll t b u d)) ∧
  RatAt C H q2 (lo (fSub t b u d) (gAll t b u d)) (lb (fSub t b u d) (gAll t b u d)) ∧ RatAt C H q3 (lo (fMul t b u d) (gAll t b u d)) (lb (fMul t b u d) (gAll t b u d))
theorem ResP.same {H H' : Hp} {q : Addr} {t b u d : Int} (h : ResP H q t b u d) (s : Same H H') : ResP H' q t b u d := by
  obtain ⟨q1, q2, q3, e, a, b, c⟩ := h
  exact ⟨q1, q2, q3, s _ _ e, s _ _ a, s _ _ b, s _ _ c⟩
theorem resR_of {C : Addr} {G4 G5 G6 : Hp} {c1 c2 c3 L : Addr} {t b u d : Int} (v1 : RatAt C G4 c1 (lo (fAdd t b u d) (gAll t b u d)) (lb (fAdd t b u d) (gAll t b u d))) (s5 : Same G4 G5)
    (v2 : RatAt C G5 c2 (lo (fSub t b u d) (gAll t b u d)) (lb (fSub t b u d) (gAll t b u d))) (s6 : Same G5 G6) (v3 : RatAt C G6 c3 (lo (fMul t b u d) (gAll t b u d)) (lb (fMul t b u d) (gAll t b u d))) (n : G6 L = none) :
    ResR C (upd G6 L (.lst [.ref c1, .ref c2, .ref c3])) L t b u d :=
  ⟨c1, c2, c3, upd_same, v1.same (s5.trans (s6.trans (Same.new n))), v2.same (s6.trans (Same.new n)), v3.same (Same.new n)⟩
theorem szs {t b u d : Int} (b0 : 0 < b) (d0 : 0 < d) (st : Sm 100 t) (sb : Sm 100 b) (su : Sm 100 u) (sd : Sm 100 d) : (Sm 1900 (lo (fAdd t b u d) (gAll t b u d)) ∧ Sm 1900 (lb (fAdd t b u d) (gAll t b u d))) ∧
    (Sm 1900 (lo (fSub t b u d) (gAll t b u d)) ∧ Sm 1900 (lb (fSub t b u d) (gAll t b u d))) ∧ (Sm 1900 (lo (fMul t b u d) (gAll t b u d)) ∧ Sm 1900 (lb (fMul t b u d) (gAll t b u d))) := by
  have g : Sm 1900 (gAll t b u d) := sm_mono (sm_mul sb sd) (by decide)
  have g0 : 0 < gAll t b u d := Int.mul_pos b0 d0
  have f1 : Sm 1900 (fAdd t b u d) := sm_mono (sm_add (sm_mul st sd) (sm_mul su sb)) (by decide)
  have f2 : Sm 1900 (fSub t b u d) := sm_mono (sm_sub (sm_mul st sd) (sm_mul su sb)) (by decide)
  have f3 : Sm 1900 (fMul t b u d) := sm_mono (sm_mul st su) (by decide)
  exact ⟨⟨lo_small f1 g0, lb_small g g0⟩, ⟨lo_small f2 g0, lb_small g g0⟩, lo_small f3 g0, lb_small g g0⟩
theorem are3 {C : Addr} {H : Hp} {Q : VK} {p q : Addr} {t b u d : Int} (r : ResR C H p t b u d) (e : ResP H q t b u d) (b0 : 0 < b) (d0 : 0 < d) (st : Sm 100 t) (sb : Sm 100 b) (su : Sm 100 u) (sd : Sm 100 d)
    (k : ∀ H', Same H H' → Q (.bl true) H') : AreW C [.ref p, .ref q] H Q := by
  obtain ⟨p1, p2, p3, hp, r1, r2, r3⟩ := r
  obtain ⟨q1, q2, q3, hq, e1, e2, e3⟩ := e
  obtain ⟨⟨a1, a2⟩, ⟨b1, b2⟩, c1, c2⟩ := szs b0 d0 st sb su sd
  exact ⟨p, q, _, _, rfl, hp, hq, by show 3 < 1000; decide, .cons ⟨p1, q1, _, _, rfl, rfl, r1, e1, a1, a2⟩ (.cons ⟨p2, q2, _, _, rfl, rfl, r2, e2, b1, b2⟩ (.cons ⟨p3, q3, _, _, rfl, rfl, r3, e3, c1, c2⟩ .nil)), k⟩
theorem opR2 {C : Addr} {H : Hp} {Q : VK} {E : XK} {F G F' G' : Int → Int → Int → Int → Int} (hF : ∀ t b u d, F' t b u d = F u d t b) (hG : ∀ t b u d, G' t b u d = G u d t b) {a : Addr} {n t b : Int} (r : RatAt C H a t b) (b0 : 0 < b)
    (st : Sm 1000 t) (sb : Sm 1000 b) (sn : Sm 1000 n) (k : NewR C H Q (lo (F n 1 t b) (G n 1 t b)) (lb (F n 1 t b) (G n 1 t b))) : rOpR C (spBin C F' G') E (.int n) (.ref a) H Q := by
  refine opR r b0 st sb sn ?_
  rw [hF, hG]
  exact k
end RR
namespace RR
open PySem PySem.Spec PyProof.Rows L2
theorem negL {C : Addr} {H : Hp} {Q : VK} {E : XK} {a : Addr} {t b : Int} (r : RatAt C H a t b) (l : Low t b) (st : Sm 1000 t) (sb : Sm 1000 b) (k : NewR C H Q (-t) b) : rNegO C (spNeg C) E (.ref a) H Q := by
  obtain ⟨dx, e⟩ := r
  refine ⟨⟨a, dx, _, rfl, e⟩, a, t, b, rfl, ⟨dx, e⟩, l.1, st, sb, ?_⟩
  rw [low_lo (low_neg l), low_lb (low_neg l)]
  exact k
theorem absL {C : Addr} {H : Hp} {Q : VK} {E : XK} {a : Addr} {t b : Int} (r : RatAt C H a t b) (l : Low t b) (st : Sm 1000 t) (sb : Sm 1000 b) (k : NewR C H Q (if t < 0 then -t else t) b) : rAbsO C (spAbs C) E [.ref a] H Q := by
  obtain ⟨dx, e⟩ := r
  exact ⟨⟨a, dx, _, rfl, e⟩, a, t, b, rfl, ⟨dx, e⟩, l, st, sb, k⟩
theorem abs_neg_eq (t : Int) : (if -t < 0 then - -t else -t) = (if t < 0 then -t else t) := by split <;> split <;> omega
theorem sub_self0 (t b : Int) : lo (fSub t b t b) (gAll t b t b) = 0 := by rw [show fSub t b t b = 0 by unfold fSub; omega]; exact lo_zero
theorem sub_self1 {t b : Int} (h : 0 < b) : lb (fSub t b t b) (gAll t b t b) = 1 := by rw [show fSub t b t b = 0 by unfold fSub; omega]; exact lb_zero (Int.mul_pos h h)
theorem add_neg0 (t b : Int) : lo (fAdd t b (-t) b) (gAll t b (-t) b) = 0 := by rw [show fAdd t b (-t) b = 0 by unfold fAdd; rw [Int.neg_mul]; omega]; exact lo_zero
theorem add_neg1 {t b : Int} (h : 0 < b) : lb (fAdd t b (-t) b) (gAll t b (-t) b) = 1 := by rw [show fAdd t b (-t) b = 0 by unfold fAdd; rw [Int.neg_mul]; omega]; exact lb_zero (Int.mul_pos h h)
theorem mul_zero0 (t b : Int) : lo (fMul t b 0 1) (gAll t b 0 1) = 0 := by rw [show fMul t b 0 1 = 0 by unfold fMul; omega]; exact lo_zero
theorem mul_zero1 {t b : Int} (h : 0 < b) : lb (fMul t b 0 1) (gAll t b 0 1) = 1 := by rw [show fMul t b 0 1 = 0 by unfold fMul; omega]; exact lb_zero (by unfold gAll; omega)
theorem mul_one0 {t b : Int} (h : Low t b) : lo (fMul t b 1 1) (gAll t b 1 1) = t := by rw [show fMul t b 1 1 = t by unfold fMul; omega, show gAll t b 1 1 = b by unfold gAll; omega]; exact low_lo h
theorem mul_one1 {t b : Int} (h : Low t b) : lb (fMul t b 1 1) (gAll t b 1 1) = b := by rw [show fMul t b 1 1 = t by unfold fMul; omega, show gAll t b 1 1 = b by unfold gAll; omega]; exact low_lb h
end RR
set_option maxHeartbeats 4000000
namespace RR
open PySem PySem.Spec PyProof.Rows L2 LamX
/-! ### the law's end where defs make lambdas: their tables are tracked from the start -/
/-- the script, and the tables in ts -/
def hpT (ts : List Addr) (a : Addr) (vs : List Value) (ns : List Int) (own : Bool) : Hp := fun b => if b ∈ ts then some (.tbl #[]) else hpOf a vs ns own b
section
variable {ts : List Addr} {a b : Addr} {vs : List Value} {ns : List Int} {o : Bool}
theorem hpT_in (h : b ∈ ts) : hpT ts a vs ns o b = some (.tbl #[]) := if_pos h
theorem hpT_out (h : b ∉ ts) : hpT ts a vs ns o b = hpOf a vs ns o b := if_neg h
end
theorem lawGT {P : Program} {w : World} {K : PySem.W.Frag} {mg mb : Str → Option Value} {k : Nat} {fa a : Addr} {g : Sp} {s : Shared} {vs : List Value} {ns : List Int} {cs : List (Addr × Addr)}
    (kin : K.In s.heap) (hns : s.heap.Ns mainGlobals mg) (hb : s.heap.Ns builtinsNs mb) (hbb : ∀ x : Str, x ≠ "__name__" → mb x = bootBuiltins x) (lim : s.heap.NoLimit) (hgen : s.gens = #[])
    (tab : ∀ p ∈ cs, PySem.W.CodeHd s.heap p.1 p.2 ∧ s.heap.get? p.2 = some { cls := .none, data := .fields #[] }) (off : ∀ p ∈ cs, K.lookup p.2 = none)
    (bmod : ∃ (bm : Addr) (ob : Obj), mg "__builtins__" = some (.ref bm) ∧ bm ≠ builtinsNs ∧ s.heap.get? bm = some ob ∧ ob.cls = .type "module" ∧ ob.dict = some builtinsNs ∧ ob.data = .plain)
    (ha : s.heap.get? a = some { cls := .type "list", data := .seq vs.toArray }) (hi : IntsAre vs ns) (hl : ns.length ≤ sizeLine) (hr : Room k callerA)
    (F : ∀ base : Heap, K.In base → base.Ns mainGlobals mg → (∀ p ∈ cs, TabB base mg p.1 p.2) → FnG P w K mg base CX0 k fa g)
    (sp : ∀ H : Hp, (∀ p ∈ cs, H p.2 = some (.tbl #[])) → SqL K H a (ns.map V.int) → g [.ref a] H (fun v _ => v = .bl true) E0) :
    codeAny (model P w) callerA (.call (.ref fa) ⟨[.ref a], []⟩) (fun r s' => r = .ok (.ret (.bool true)) ∧ OldK s.heap s'.heap ∧ s'.os = s.os ∧ AllBare s'.gens) s := by
  have rv := vals_ints hi
  have laid : ∀ b, b ∈ cs.map Prod.snd → s.heap.get? b = some { cls := .none, data := .fields #[] } ∧ K.lookup b = none := by
    intro b z
    obtain ⟨p, hp, rfl⟩ := List.mem_map.mp z
    exact ⟨(tab p hp).2, off p hp⟩
  have an : a ∉ cs.map Prod.snd := by
    intro z
    have y := (laid a z).1
    rw [ha] at y
    cases y
  have main : ∀ o : Bool, (o = true → ∃ ob, K.lookup a = some ob) → (o = false → K.lookup a = none) →
      codeAny (model P w) callerA (.call (.ref fa) ⟨[.ref a], []⟩) (fun r s' => r = .ok (.ret (.bool true)) ∧ OldK s.heap s'.heap ∧ s'.os = s.os ∧ AllBare s'.gens) s := by
    intro o h1 h0
    have hok : HOk P w (hpT (cs.map Prod.snd) a vs ns o) s.heap := by
      intro b u z
      by_cases hm : b ∈ cs.map Prod.snd
      · rw [hpT_in hm] at z
        cases z
        exact (laid b hm).1
      · rw [hpT_out hm] at z
        obtain ⟨rfl, -, rfl⟩ := hp_only z
        exact ⟨ha, by rw [List.length_map]; exact hl, vs, _, rv, ha⟩
    have seq : SqL K (hpT (cs.map Prod.snd) a vs ns o) a (ns.map V.int) := by
      cases o with
      | false => exact .inl (.inr ⟨_, (hpT_out an).trans (hp_at a vs ns)⟩)
      | true =>
        obtain ⟨ob, e⟩ := h1 rfl
        have e2 := kin a ob e
        rw [ha] at e2
        cases e2
        exact .inr ⟨_, vs.toArray, _, e, rfl, rfl, rfl, by rw [List.size_toArray, hi.length]; exact hl, by simpa using rv⟩
    have keepH : ∀ {b : Addr} {ob : Obj}, s.heap.get? b = some ob → hpT (cs.map Prod.snd) a vs ns o b = none → (hidT s.heap (hpT (cs.map Prod.snd) a vs ns o)).get? b = some ob := fun e n => hidT_get e n
    have free : ∀ {b : Addr} {ob : Obj}, s.heap.get? b = some ob → (∀ l n, ob.data ≠ .seq l n) → ob.data ≠ .fields #[] → hpT (cs.map Prod.snd) a vs ns o b = none := by
      intro b ob e n1 n2
      by_cases hm : b ∈ cs.map Prod.snd
      · have y := (laid b hm).1
        rw [e] at y
        cases y
        exact absurd rfl n2
      · rw [hpT_out hm]
        refine hp_off fun z => ?_
        rw [z, ha] at e
        cases e
        exact n1 _ _ rfl
    have ofDict : ∀ {b : Addr} {ob : Obj} {es : Array DictEntry} {ep : Nat}, s.heap.get? b = some ob → ob.data = .dict es ep → hpT (cs.map Prod.snd) a vs ns o b = none := by
      intro b ob es ep e d
      exact free e (fun _ _ z => by rw [d] at z; cases z) fun z => by rw [d] at z; cases z
    have nsH : ∀ {b : Addr} {m : Str → Option Value}, s.heap.Ns b m → (hidT s.heap (hpT (cs.map Prod.snd) a vs ns o)).Ns b m := by
      rintro b m ⟨ob, es, ep, e, d, r⟩
      exact ⟨ob, es, ep, keepH e (ofDict e d), d, r⟩
    have kinH : K.In (hidT s.heap (hpT (cs.map Prod.snd) a vs ns o)) := fun b ob e => keepH (kin b ob e) (by
      by_cases hm : b ∈ cs.map Prod.snd
      · rw [(laid b hm).2] at e
        cases e
      · rw [hpT_out hm]
        cases q : hpOf a vs ns o b with
        | none => rfl
        | some u =>
          obtain ⟨rfl, z, -⟩ := hp_only q
          rw [h0 z] at e
          cases e)
    have md : Mod K mg (hidT s.heap (hpT (cs.map Prod.snd) a vs ns o)) := ⟨kinH, nsH hns, ⟨mb, nsH hb, hbb⟩, by
      obtain ⟨mc, y1, y2⟩ := lim
      exact ⟨mc, nsH y1, y2⟩⟩
    have tb : ∀ p ∈ cs, TabB (hidT s.heap (hpT (cs.map Prod.snd) a vs ns o)) mg p.1 p.2 := by
      intro p hp
      obtain ⟨hc, ht⟩ := tab p hp
      constructor
      · obtain ⟨oc, us, x1, x2, x3, x4, x5, x6, x7, e, r1, r2, rest⟩ := hc
        refine ⟨oc, us, x1, x2, x3, x4, x5, x6, x7, keepH e (free e (fun l n z => ?_) fun z => ?_), r1, r2, rest⟩
        · rw [r2] at z; cases z
        · rw [r2] at z
          cases z
          have := rest.1
          simp at this
      · obtain ⟨bm, ob, b1, b2, b3, b4, b5, b6⟩ := bmod
        refine ⟨bm, ob, b1, b2, ?_, ?_, keepH b3 (free b3 (fun l n z => ?_) fun z => ?_), b4, b5, b6⟩
        · intro q
          obtain ⟨og, es, ep, e, d, _⟩ := hns
          rw [q, e] at b3
          cases b3
          rw [d] at b6
          cases b6
        · intro q
          rw [q, ht] at b3
          cases b3
          cases b6
        · rw [b6] at z; cases z
        · rw [b6] at z; cases z
      · intro q
        obtain ⟨og, es, ep, e, d, _⟩ := hns
        rw [q, ht] at e
        cases e
        cases d
    have e0 : Env0 P w K mg (hidT s.heap (hpT (cs.map Prod.snd) a vs ns o)) callerA [] s (hpT (cs.map Prod.snd) a vs ns o) :=
      { frames := rfl, mod := md, bs := fun b ob e => of_hidT e, bsz := Nat.le_of_eq (hidT_size _ _), funs := trivial, frf := fun b z => absurd (show b ∈ ([] : List Addr) from z) (by simp), hok := hok, bare := .of_eq hgen }
    have z := F _ kinH (nsH hns) tb callerA [] s (hpT (cs.map Prod.snd) a vs ns o) [.ref a] [.ref a] _ E0 hr rfl e0 (.cons rfl .nil) (sp _ (fun p hp => hpT_in (List.mem_map_of_mem hp)) seq)
    refine codeAny_mono z fun r s' h => ?_
    match r, h with
    | .error _, h => exact (show False from h).elim
    | .ok .next, h => exact h.elim
    | .ok .brk, h => exact h.elim
    | .ok .cont, h => exact h.elim
    | .ok (.ret u), h =>
      obtain ⟨v, H', os, bare, un, hok', r', q⟩ := h
      cases (show v = .bl true from q)
      cases (show u = Value.bool true from r')
      have key : ∀ b ob, b ∉ cs.map Prod.snd → s.heap.get? b = some ob → s'.heap.get? b = some ob := by
        intro b ob hm e
        cases q2 : hpOf a vs ns o b with
        | none => exact un.keep b ob e ((hpT_out hm).trans q2) (fun z => absurd (show b ∈ ([] : List Addr) from z) (by simp)) (by simp)
        | some u =>
          obtain ⟨rfl, -, rfl⟩ := hp_only q2
          have y := (hok' b _ (un.frzs b _ _ ((hpT_out hm).trans q2))).1
          rw [ha] at e
          cases e
          exact y
      have grow : ∀ b, b ∈ cs.map Prod.snd → ∃ more : Array Value, s'.heap.get? b = some { cls := .none, data := .fields more } := by
        intro b hm
        obtain ⟨more, z⟩ := un.tbls b #[] (hpT_in hm)
        exact ⟨_, hok' b _ z⟩
      refine ⟨rfl, ⟨fun b ob e => ?_, fun b ob e => ?_⟩, os, bare⟩
      · by_cases hm : b ∈ cs.map Prod.snd
        · obtain ⟨more, y⟩ := grow b hm
          obtain ⟨p, hp, rfl⟩ := List.mem_map.mp hm
          rw [(tab p hp).2] at e
          cases e
          exact .inr (.inl ⟨((tab p hp).1.tab (tab p hp).2).isCodeTable, rfl, #[], more, rfl, by rw [Array.empty_append]; exact y⟩)
        · exact .inl (key b ob hm e)
      · by_cases hm : b ∈ cs.map Prod.snd
        · obtain ⟨more, y⟩ := grow b hm
          exact ⟨_, y⟩
        · exact ⟨ob, key b ob hm e⟩
  cases hk : K.lookup a with
  | some ob => exact main true (fun _ => ⟨ob, hk⟩) fun z => by cases z
  | none => exact main false (fun z => by cases z) fun _ => hk
/-- the goal that k_head leaves, from the promise of a law whose defs make lambdas -/
theorem walkGT {l : PySem.W.OpenLaw} {n k : Nat} {q : Program} {loose : List Str} {XP : (Str → Option Value) → Heap → Prop} {YP : World → Heap → Prop} {d : DefRec} {K : Params → PySem.W.Frag} {xs : List Str} {g : List (Addr × Addr) → PySem.W.Frag → Sp}
    (hn : l.most = some n) (hn2 : n ≤ sizeLine) (hdf : d.params.defaults = []) (hr : Room k callerA) (hY : ∀ (w : World) (h : Heap), YP w h → (K w.params).In h)
    (hx : ∀ x ∈ xs, ((recsOf q).find? (fun e => e.name == x)).isSome = true)
    (F : ∀ (w : World) (mg : Str → Option Value) (fa : Addr) (h : Heap), (K w.params).In h → h.Ns mainGlobals mg → mg d.name = some (.ref fa) →
      ∃ cs : List (Addr × Addr), (∀ p ∈ cs, (∃ x ∈ xs, PySem.W.tabIn (K w.params) x = some p) ∧ (K w.params).lookup p.2 = none) ∧
        (∀ base : Heap, (K w.params).In base → base.Ns mainGlobals mg → (∀ p ∈ cs, TabB base mg p.1 p.2) → FnG l.prog w (K w.params) mg base CX0 k fa (g cs (K w.params))) ∧
        ∀ (H : Hp) (a : Addr) (ns : List Int), ns.length ≤ n → (∀ p ∈ cs, H p.2 = some (.tbl #[])) → SqL (K w.params) H a (ns.map V.int) → g cs (K w.params) [.ref a] H (fun v _ => v = .bl true) E0) :
    PySem.W.WalkO q loose XP YP l.row.toRowW d [] (fun f vs => PySem.call f vs) := by
  refine Att.attach_call hn hdf fun w s0 s mg mb fa o pm cd doc a vs ns G Y ho hd hcd hmg hobj hints hlen hg => ?_
  have kin := hY w _ Y
  obtain ⟨cs, h1, h2, h3⟩ := F w mg fa _ kin G.T.g hmg
  refine lawGT (cs := cs) kin G.T.g G.T.b G.T.builtins G.T.nolimit hg (fun p hp => ?_) (fun p hp => (h1 p hp).2) G.T.bmain hobj hints (Nat.le_trans hlen hn2) hr h2 fun H hH hS => h3 H a ns hlen hH hS
  obtain ⟨⟨x, hxs, ht⟩, -⟩ := h1 p hp
  obtain ⟨dr, hdr⟩ := Option.isSome_iff_exists.mp (hx x hxs)
  exact PySem.W.tab_of G.T kin hdr ht
end RR
set_option maxHeartbeats 4000000
namespace RR
open PySem PySem.Spec PyProof.Rows L2 LamX
/-! ### an exception that was caught, as a value -/
/-- a caught exception of the class cls, its dict d, at a -/
def HeldX (cls : Value) (d : Option Addr) (a : Addr) : HO := .ext fun h => ∃ oe : Obj, h.get? a = some oe ∧ Zc cls d oe ∧ ∃ vs, oe.data = .fields vs
section
variable {X : Cx} {pins : List (Addr × Obj)} {σ : L2.St} {H : Hp} {s : Shared} {a : Addr} {o : HO}
/-- an object that came up behind the def's entry is tracked from now on -/
theorem track (I : Inv X pins σ H s) (n0 : X.s_0.heap.get? a = none) (na : H a = none) (nL : a ≠ X.env.locals) (nc : ∀ x c, X.env.cells.lookup x = some c → c ≠ a) (np : ∀ p ∈ X.pn ++ pins, p.1 ≠ a)
    (new : ObjOk X.prog X.w (upd H a o) s.heap a o) : Inv X pins σ (upd H a o) s := by
  have old : ∀ {b : Addr} {u : HO}, H b = some u → upd H a o b = some u := fun e => (upd_ne (ne_of_none e na)).trans e
  exact
    { ok := I.ok, os := I.os, bare := I.bare, loc := I.loc, cell := I.cell, len := I.len
      base :=
        { keep := I.base.keep, slot := I.base.slot, there := I.base.there
          free := fun b u e n hx => by
            rw [upd_ne fun z => by rw [z, n0] at e; cases e]
            exact I.base.free b u e n hx
          tups := fun b xs e => old (I.base.tups b xs e)
          frzs := fun b u v e => old (I.base.frzs b u v e)
          tbls := fun b ps e => by
            obtain ⟨m, q⟩ := I.base.tbls b ps e
            exact ⟨m, old q⟩ }
      free := (upd_ne nL.symm).trans I.free
      freeC := fun x c e => (upd_ne (nc x c e)).trans (I.freeC x c e)
      pin := fun p hp => by
        obtain ⟨h1, h2, h3⟩ := I.pin p hp
        exact ⟨h1, (upd_ne (np p hp)).trans h2, h3⟩
      hok := fun b u e => by
        by_cases hb : b = a
        · subst hb
          rw [upd_same] at e
          cases e
          exact new
        · rw [upd_ne hb] at e
          exact (I.hok b u e).stay (fun _ _ _ q => q) (fun _ q => old q) fun _ _ q => old q }
theorem suite_ok (I : Inv X pins σ H s) : Inv (X.suite a (X.pn ++ pins)) [] σ H s :=
  ⟨I.ok.suite _ _, I.os, I.bare, I.base, I.loc, I.cell, I.free, I.freeC, fun p hp => I.pin p (by rw [List.append_nil] at hp; exact hp), I.hok, I.len⟩
theorem suite_end {pn' : List (Addr × Obj)} (I : Inv (X.suite a (X.pn ++ pins)) pn' σ H s) (ok : X.Ok) : Inv X pins σ H s :=
  ⟨ok, I.os, I.bare, I.base, I.loc, I.cell, I.free, I.freeC, fun p hp => I.pin p (List.mem_append_left _ hp), I.hok, I.len⟩
end
/-- the wish of 'except c as n', where the exception stays known behind its suite: slot i is n's -/
def wAsV (K : PySem.W.Frag) (c : Value) (i : Nat) (ts : Addr → Value → Option Addr → TS) (Wo : WX) (D : Ends) : WX := fun cls d σ H =>
  ∃ b, PySem.W.exmOne K cls c = some b ∧
    (b = true → ∀ a, H a = none → ts a cls d { nx := fun σ' H' => D.nx (σ'.set i none) H', rt := D.rt, bk := fun σ' H' => D.bk (σ'.set i none) H', ct := fun σ' H' => D.ct (σ'.set i none) H' } (σ.set i (some (.ref a))) (upd H a (HeldX cls d a))) ∧
    (b = false → Wo cls d σ H)
section
variable {X : Cx} {x n : Str} {c : Value} {i : Nat} {body suite : List Stmt} {b₀ : Stmt} {np pos pos' : Pos} {tb : WX → TS} {ts : Addr → Value → Option Addr → TS} {Wo : WX}
theorem ps_tryV (hs : X.stack = X.env :: X.outer) (hex : X.ex = []) (hf : X.env.frame = some X.env.locals) (hN : X.N.Nodup) (hi : X.N[i]? = some n) (hln : X.env.kindOf n = some .local) (hc : Names X x c) (tk : Takes X Wo)
    (hb : ∀ (W : WX) (pn : List (Addr × Obj)) (xe : Value → Shared → Prop), Takes (X.tr pn xe) W → PassesOwn (model X.prog X.w) X.A X.env xe → PSs (X.tr pn xe) body (tb W))
    (hsu : ∀ (a : Addr) (cls : Value) (d : Option Addr) (pn : List (Addr × Obj)), PSs (X.suite a pn) (b₀ :: suite) (ts a cls d)) :
    PS X (.Try body [.ExceptHandler (some (.Name x np)) (some n) (b₀ :: suite) pos'] [] [] pos) (fun D σ H => tb (wAsV X.K c i ts Wo D) D σ H) := by
  constructor
  intro pins s σ H D I h
  have ok := I.ok
  have frame : X.A.frames = some (X.env :: X.outer) := ok.frames.trans (congrArg some hs)
  apply wpAny_Try_except
  have looking := (hb (wAsV X.K c i ts Wo D) (X.pn ++ pins)
    (fun e t1 => wpAny (model X.prog X.w) X.A (noteFrame e X.env)
      (fun _ t2 => wpAny (model X.prog X.w) X.A (setFlight e none)
        (fun _ t3 => wpAny (model X.prog X.w) X.A (handleBy e X.env [.ExceptHandler (some (.Name x np)) (some n) (b₀ :: suite) pos']) (SP X pins D) X.xe t3) X.xe t2) X.xe t1)
    (fun u s' fly => ?_) PassesOwn.looking).run [] s σ H D (I.toTry _) h
  · refine wpAny_mono looking (fun f t hsp => ?_) fun _ _ z => z
    match f, hsp with
    | .next, ⟨σ', H', J, q⟩ => exact wpAny_execs_nil ⟨σ', H', J.ofTry ok, q⟩
    | .brk, ⟨σ', H', J, q⟩ => exact ⟨σ', H', J.ofTry ok, q⟩
    | .cont, ⟨σ', H', J, q⟩ => exact ⟨σ', H', J.ofTry ok, q⟩
    | .ret u, ⟨v, σ', H', J, r, q⟩ => exact ⟨v, σ', H', J.ofTry ok, r, q⟩
  · obtain ⟨a, B, sI, pl, σ', H', cls, d, rfl, J0, nb, up, sky, na, os, ag, b, hb1, yes, no⟩ := fly
    have J : Inv X pins σ' H' sI := J0.ofTry ok
    have sky' : Sky B (X.env :: X.outer) a (Zc cls d) X.env.locals s'.heap := hs ▸ sky
    show wpAny (model X.prog X.w) X.A (noteFrame (.ref a) X.env) _ _ _
    refine Sky.land Zc.steady frame hf sky' fun h3 fl3 up3 => ?_
    have J3 : Inv X pins σ' H' { s' with heap := h3 } := J.landed nb fl3.1 (up.trans up3) os ag
    obtain ⟨oe3, vs3, he3, hz3, hd3⟩ := fl3.there
    have S3 := suite_ok (a := a) J3
    refine wpAny_handleBy_cons (codeAny_handlers_test ?_) fun q => by cases q
    have ofCls : PySem.W.Looks (model X.prog X.w) h3 (typeOf (.ref a)) cls := by
      intro A Q E t k q
      exact wpAny_typeOf_ref (k _ _ he3) (by rw [hz3.1]; exact q)
    have meets := PySem.W.exm_one (M := model X.prog X.w) J3.kIn ofCls hb1
    have named : ∀ {Q : Value → Shared → Prop} {E : Value → Shared → Prop}, Q c { s' with heap := h3 } → wpAny (model X.prog X.w) (X.A.mark (some (.ref a))) (eval (.Name x np) X.env) Q E { s' with heap := h3 } := by
      intro Q E q
      obtain ⟨g1, g2, g3⟩ := hc
      rcases g3 with g3 | ⟨g3, g4, g5⟩
      · exact ld_glob (X := X.suite a (X.pn ++ pins)) S3 g1 g3 q g2
      · exact ld_blt (X := X.suite a (X.pn ++ pins)) S3 g1 g3 g4 q g5 g2
    refine named (meets.here ?_)
    match b, hb1, yes, no with
    | true, _, yes, _ =>
      refine codeAny_handlers_suite_as (HandSPX.lands_againZ fl3 fun h4 fl4 up4 => ?_)
      have J4 : Inv X pins σ' H' { s' with heap := h4 } := J.landed nb fl4.1 ((up.trans up3).trans up4) os ag
      obtain ⟨oe4, vs4, he4, hz4, hd4⟩ := fl4.there
      have inB : ∀ {p : Addr} {u : Obj}, sI.heap.get? p = some u → p ∉ frs X.stack → p ≠ a := by
        intro p u e hp z
        have y := nb p u e hp
        rw [z, fl4.2.1] at y
        cases y
      have offStack : a ∉ frs X.stack := by
        rw [hs]
        intro hm
        obtain ⟨_, o', e', hnf⟩ := fl4.2.2.1.mem hm
        rw [he4] at e'
        cases e'
        exact hnf _ hd4
      have n0 : X.s_0.heap.get? a = none := by
        cases e : X.s_0.heap.get? a with
        | none => rfl
        | some u =>
          obtain ⟨u', e'⟩ := J.base.there a u e (by rw [hex]; exact fun z => nomatch z)
          exact absurd rfl (inB e' offStack)
      have nL : a ≠ X.env.locals := by
        intro z
        refine offStack ?_
        rw [hs]
        exact List.mem_filterMap.mpr ⟨X.env, List.mem_cons_self, by rw [hf, z]⟩
      have nc : ∀ y k, X.env.cells.lookup y = some k → k ≠ a := by
        intro y k e z
        obtain ⟨v, oc, ho, hd⟩ := J4.cell y k e
        rw [z] at ho
        have ho' : h4.get? a = some oc := ho
        rw [he4] at ho'
        cases ho'
        rw [hd4] at hd
        cases hd
      have pinned : ∀ p ∈ X.pn ++ pins, p.1 ≠ a := by
        intro p hp
        obtain ⟨e1, e2, e3, e4, _⟩ := J.pin p hp
        refine inB e1 ?_
        rw [hs]
        intro hm
        obtain ⟨env, hm1, hm2⟩ := List.mem_filterMap.mp hm
        rcases List.mem_cons.mp hm1 with z | z
        · rw [z, hf] at hm2
          exact e3 (Option.some.inj hm2).symm
        · exact e4 (List.mem_filterMap.mpr ⟨env, z, hm2⟩)
      have J5 : Inv X pins σ' (upd H' a (HeldX cls d a)) { s' with heap := h4 } := track J4 n0 na nL nc pinned ⟨⟨oe4, he4, hz4, vs4, hd4⟩, ⟨oe4, he4⟩, fun _ _ ⟨u, e, z⟩ k => ⟨u, k u e, z⟩⟩
      refine store_ok (X := X.suite a (X.pn ++ pins)) (v := .ref a) (suite_ok (a := a) J5) hN hi (.inl hln) rfl (fun s5 S5 => ?_) (.inr hln)
      refine wpAny_mono ((hsu a cls d (X.pn ++ pins)).run [] s5 _ _ _ S5 (yes rfl a na)) (fun f s6 hsp => ?_) fun _ _ z => z.elim
      have fin : ∀ {σ6 : L2.St} {H6 : Hp} {Q : Shared → Prop}, Inv (X.suite a (X.pn ++ pins)) [] σ6 H6 s6 → (∀ s7, Inv X pins (σ6.set i none) H6 s7 → Q s7) →
          wpAny (model X.prog X.w) X.A (do bindName X.env n .none; unbindBehindTheSuite X.env n pos') (fun _ s7 => Q s7) X.xe s6 := fun S6 hq => gone_ok (suite_end S6 ok) hN hi hln hq
      match f, hsp with
      | .next, ⟨σ6, H6, S6, q6⟩ => exact fin S6 fun s7 J7 => ⟨_, _, J7, q6⟩
      | .brk, ⟨σ6, H6, S6, q6⟩ => exact fin S6 fun s7 J7 => ⟨_, _, J7, q6⟩
      | .cont, ⟨σ6, H6, S6, q6⟩ => exact fin S6 fun s7 J7 => ⟨_, _, J7, q6⟩
      | .ret u, ⟨v6, σ6, H6, S6, r6, q6⟩ => exact fin S6 fun s7 J7 => ⟨_, _, _, J7, r6, q6⟩
    | false, _, _, no =>
      show wpAny _ X.A (handleBy (.ref a) X.env []) _ _ _
      apply wpAny_handleBy_nil
      obtain ⟨_, _, _, oe, vs, T, oT, ts', he, hz, hd, h1, hr⟩ := id fl3
      unfold PySem.passOn
      apply wpAny_bind
      apply wpAny_field he hd h1
      rw [if_neg (by simp : ¬ ((Value.ref T == Value.none) = true))]
      have off : wpAny (model X.prog X.w) X.A (setFlight (.ref a) X.env.frame) (fun _ s4 => wpAny (model X.prog X.w) X.A (throw (.ref a) : Sem Flow) (SP X pins D) X.xe s4) X.xe { s' with heap := h3 } := by
        rw [hf]
        refine HandSPX.setFlight_upZ fl3 fun h4 hh4 up4 => wpAny_throw (tk _ _ ?_)
        exact ⟨a, B, sI, pins, σ', H', cls, d, rfl, J, nb, (up.trans up3).trans up4, .inr (.inr (by rw [hs]; exact hh4)), na, os, ag, no rfl⟩
      first
        | exact wpAny_bind (wpAny_pure (wpAny_bind off))
        | exact wpAny_bind off
end
/-! ### isinstance of such a value -/
def rIsX (K : PySem.W.Frag) (D : Addr) : List V → Hp → VK → Prop := fun xs H Q =>
  ∃ (a : Addr) (c : V) (cv : Value) (b : Bool), xs = [.ref a, c] ∧ H a = some (HeldX (.ref D) none a) ∧ (∀ u, RelV c u → u = cv) ∧ PySem.W.kitOne K (.ref D) cv = some b ∧ Q (.bl b) H
theorem call_isX {X : Cx} {D : Addr} (C : ExcC X.K D) : CallR X (.builtin "isinstance") (rIsX X.K D) := by
  rintro pins s σ H xs us Q I r ⟨a, c, cv, b, rfl, ha, hcv, e, q⟩
  match us, r with
  | [_, _], .cons rx (.cons rc .nil) =>
    cases rx
    obtain rfl := hcv _ rc
    obtain ⟨⟨oe, he, hz, vs, hd⟩, _, _⟩ := I.hok a _ ha
    have at_ : PySem.W.InstAt s.heap a oe D none := by
      obtain ⟨oc, od, oda, osl⟩ := oe
      obtain ⟨z1, z2⟩ := hz
      dsimp only at z1 z2 hd
      subst z1 z2 hd
      exact ⟨he, rfl, rfl, trivial⟩
    exact PySem.W.kia_one (PySem.W.handS_kitx_exc C.hg C.hk C.hs C.hd C.ha C.hn C.ht C.hm) I.kIn at_ e (fun z => nomatch z) fun tk => ⟨.bl b, H, I.kept (t' := tk) fun _ _ z => z, rfl, q⟩
/-! ### X(), an own exception class without own __init__ -/
theorem pmk_own0 {X : Cx} {C : Addr} {bmB : List Value} {B newId initId : String} {x : Str} {p pos : Pos} (F : ExcBaseFacts B newId initId bmB) (q : PySem.W.excIn X.K C bmB newId = true) (gC : X.mg x = some (.ref C)) (kC : PySem.W.keepIn X.K (.ref C) = true) (r : Raises X (.ref C)) (hg : Gl X x)
    (hdb : (x == ("__debug__" : Str)) = false := by decide) : PMk X (.Call (.Name x p) [] [] pos) (fun _ H Q => Q (.ref C) none H) := by
  intro pins s σ H Q I h
  apply wpAny_Call_Name_kw
  refine ld_glob I hg gC ?_ hdb
  refine PySem.W.callWith_K0 I.kIn kC ?_
  show wpAny _ _ (call (.ref C) []) _ _ _
  obtain ⟨bm, N, nm, qn, bs, hdct, sn, sub, ab, col, dd, k0, k1, k2, k3, k5, mN, hC, hN, hni, T⟩ := exc_obj I.kIn q
  refine wpAny_call_exc_subT F T hC hN hni (fun h' e hm => ?_) (by show 0 ≤ sizeLine; rw [sizeLine_eq]; omega)
  exact mk_of I hm r h (I.hok.gone hm.new)
end RR
set_option maxHeartbeats 4000000
namespace RR
open PySem PySem.Spec PyProof.Rows L2 LamX
/-! ### a lambda handed to a def, its body read where no display is under way -/
section
variable {X : Cx} {pins : List (Addr × Obj)} {σ : L2.St} {H : Hp} {s : Shared}
/-- the qualified name of a lambda of this def -/
abbrev lamQ (X : Cx) : Str := X.env.qual ++ "<lambda>"
/-- how the def that got a lambda reads its call: E', Q' are the wishes that the lambda's own reading is told -/
abbrev tActS (i : Nat) (f c' : Addr) (q : Str) (W : WX) (tl : XK → Hp → VK → Prop) : TE := fun σ H Q => σ[i]? = some (some (.ref f)) ∧ H c' = some (CodeO c' q) ∧
  ∃ (E' : XK) (Q' : VK), (∀ cls d H', E' cls d H' → W cls d σ H') ∧ (∀ v H', Q' v H' → Q v H') ∧ tl E' H Q'
theorem pe_actF {CXg : CXT} {Eg : XK} {Ng : List Str} {qg : Str} {sg : Scope} {g f c' : Addr} {cdg pm ctv : Value} {params : Arguments} {body : Expr} {scope : Scope} {k i : Nat} {a : Str} {pn : List (Addr × Obj)} {xe : Value → Shared → Prop} {W : WX} {t : XK → TE} {p1 p2 : Pos}
    (I : Inv X pins σ H s) (L : LamS X.env.scope scope) (made : s.heap.get? f = some (PySem.W.kla_obj "<lambda>" (lamQ X) params body scope (cloFrom X.env.cells scope.names []) pm c' ctv)) (nf : H f = none) (off : f ∉ frs X.stack)
    (noArgs : bindArgs (PySem.W.kla_fn "<lambda>" (lamQ X) params body scope (cloFrom X.env.cells scope.names []) pm (.ref c') ctv) ⟨[], []⟩ = pure [])
    (tk : Takes ((cxOf CXg X.prog X.w X.K X.mg X.base Ng qg sg g cdg X.A X.stack s H Eg).tr pn xe) W) (hr : Room (k + 1) (X.A.deeper (envOfC qg sg s.heap.objs.size g cdg))) (fr : Free X.A)
    (hbody : ∀ (A : Around) (outer : List Env) (s : Shared) (H : Hp) (E : XK), Room k (A.deeper (lamEnv X scope s.heap.objs.size f c')) → Free (A.deeper (lamEnv X scope s.heap.objs.size f c')) → PE (lamCx X A outer s H E scope f c') body (t E))
    (hN : Ng[i]? = some a) (hv : Vis sg a) (hd : (a == ("__debug__" : Str)) = false := by decide) (hcd : (a == ("__classdict__" : Str)) = false := by decide) :
    PE ((cxOf CXg X.prog X.w X.K X.mg X.base Ng qg sg g cdg X.A X.stack s H Eg).tr pn xe) (.Call (.Name a p1) [] [] p2) (tActS i f c' (lamQ X) W fun E H' Q' => t E σ H' Q') := by
  constructor
  rintro pinsZ sZ σZ HZ Q IZ ⟨slot, code, E, Q1, hW, hQ, red⟩
  have name := (pe_var (X := (cxOf CXg X.prog X.w X.K X.mg X.base Ng qg sg g cdg X.A X.stack s H Eg).tr pn xe) (pos := p1) (i := i) hN hv hd hcd).run pinsZ sZ σZ HZ (fun v H1 => v = .ref f ∧ H1 = HZ) IZ ⟨.ref f, slot, rfl, rfl⟩
  refine wpAny_Call_Name_kw (thn name fun u s1 h1 => ?_)
  obtain ⟨v, H1, I1, r1, rfl, rfl⟩ := h1
  cases (show u = Value.ref f from r1)
  have there : s1.heap.get? f = some (PySem.W.kla_obj "<lambda>" (lamQ X) params body scope (cloFrom X.env.cells scope.names []) pm c' ctv) := I1.base.keep f _ made nf off fun z => nomatch (show f ∈ ([] : List Addr) from z)
  apply PySem.W.callWith_F0 ⟨_, _, _, _, there⟩
  have grown : Un (frs X.stack) [] H H1 s.heap s1.heap := I1.base
  obtain ⟨⟨oc, vs, tt, c1, c2, c3⟩, -, -⟩ := I1.hok c' _ code
  have run : codeAny (model X.prog X.w) (X.A.deeper (envOfC qg sg s.heap.objs.size g cdg)) (.call (.ref f) ⟨[], []⟩) (CR (L2.CX X.prog X.w) (envOfC qg sg s.heap.objs.size g cdg :: X.stack) X.prog X.w H1 s1 Q1 E) s1 := by
    refine PySem.W.kla_callFunE hr.depth there rfl L.co L.gen rfl ⟨c', oc, vs, tt, rfl, c1, c2, c3⟩ ?_
    rw [noArgs]
    refine wpAny_pure (wpAny_newFunctionEnv (fun y hy => (L.own y hy).2) (fun y hy => nomatch hy) (fun h1 ns but => ⟨I1.nolimit.fresh _ but, ?_⟩) L.kind)
    show codeAny _ _ (.expr body (lamEnv X scope s1.heap.objs.size f c')) _ _
    have keeps : ∀ b o, s1.heap.get? b = some o → h1.get? b = some o := by
      intro b o e
      exact but.extBut b o (Nat.ne_of_lt (Heap.lt_size e)) (Heap.get?_push_of_some _ e)
    have J := lam_start2 (A := X.A.deeper (envOfC qg sg s.heap.objs.size g cdg)) (outer := envOfC qg sg s.heap.objs.size g cdg :: X.stack) (E := E) (f := f) (c' := c') (h₁ := h1) (tk := s1.toks + ([] : List (Str × Value)).length) I L I1.env0 hr.hd grown ns keeps
    refine PySem.W.kla_codeExpr (wpAny_mono ((hbody _ _ s1 H1 E (hr.deeper _) (free_deeper _ (free_deeper _ fr))).run [] _ _ H1 Q1 J red) (fun v s' hq => ?_) fun _ _ z => z)
    obtain ⟨w', H', J', rv, q⟩ := hq
    exact ⟨w', H', J'.os, J'.bare, J'.base, J'.hok, rv, q⟩
  refine wpAny_call (codeAny_mono run fun r s' hq => ?_)
  match r, hq with
  | .error e, hq => exact tk e s' (XE.of_call I1 (fun cls d H' h => hW cls d H' h) hq)
  | .ok (.ret _), hq =>
    obtain ⟨w', H', J', rv, q⟩ := I1.after hq
    exact ⟨w', H', J', rv, hQ _ _ q⟩
  | .ok .next, hq => exact hq.elim
  | .ok .brk, hq => exact hq.elim
  | .ok .cont, hq => exact hq.elim
end
/-- a def that calls what it got; TT: what it makes of the lambda's reading -/
def GivesS (X : Cx) (Ng : List Str) (x : Str) (sg : Scope) (g : Addr) (cdg : Value) (bg : List Stmt) (a : Str) (q : Str) (TT : (XK → Hp → VK → Prop) → Hp → VK → Prop) : Prop :=
  ∀ (f c' : Addr) (s : Shared) (H : Hp) (Q : VK) (tl : XK → Hp → VK → Prop),
    (∀ (W : WX) (pn : List (Addr × Obj)) (xe : Value → Shared → Prop) (p1 p2 : Pos), Takes ((cxOf C8.CX0 X.prog X.w X.K X.mg X.base Ng x sg g cdg X.A X.stack s H C8.E0).tr pn xe) W →
      PE ((cxOf C8.CX0 X.prog X.w X.K X.mg X.base Ng x sg g cdg X.A X.stack s H C8.E0).tr pn xe) (.Call (.Name a p1) [] [] p2) (tActS 0 f c' q W tl)) →
    H c' = some (CodeO c' q) → TT tl H Q →
    ∃ t, PSs (cxOf C8.CX0 X.prog X.w X.K X.mg X.base Ng x sg g cdg X.A X.stack s H C8.E0).nox bg t ∧ t { nx := fun _ H' => Q .non H', rt := Q } (L2.start Ng [.ref f]) H
section
variable {X : Cx}
/-- x(lambda: body) -/
theorem pe_lamF {T : List (Addr × Str)} {TT : (XK → Hp → VK → Prop) → Hp → VK → Prop} {x a : Str} {g c P : Addr} {k : Nat} {st : Stmt} {fd : FuncData} {Ng : List Str}
    {params : Arguments} {body : Expr} {scope : Scope} {t : XK → TE} {p lpos pos : Pos} (F : Fun X.K x x st g fd) (hg : Gl X x) (hm : X.mg x = some (.ref g)) (hk : PySem.W.keepIn X.K (.ref g) = true)
    (hb : L2.Binds X.K fd [a] []) (Sg : FnScope Ng [a] (defScope st)) (hNg : Ng[0]? = some a) (hva : Vis (defScope st) a)
    (hG : ∀ cdv, GivesS X Ng x (defScope st) g cdv (defBody st) a (lamQ X) TT)
    (TB : TabB X.base X.mg c P) (hcode : X.env.code = .ref c) (hmT : (P, lamQ X) ∈ T) (hu : ∀ p ∈ T, p.1 = P → p.2 = lamQ X) (hr : Room (k + 2) X.A) (fr : Free X.A) (L : LamS X.env.scope scope) (hdef : defaultsOf params X.env = ([], []))
    (hbind : ∀ (q : Str) (cl : List (Str × Addr)) (pm cv ctv : Value), bindArgs (PySem.W.kla_fn "<lambda>" q params body scope cl pm cv ctv) ⟨[], []⟩ = pure [])
    (hbody : ∀ (A : Around) (outer : List Env) (s : Shared) (H : Hp) (E : XK) (f c' : Addr), Room k (A.deeper (lamEnv X scope s.heap.objs.size f c')) → Free (A.deeper (lamEnv X scope s.heap.objs.size f c')) → PE (lamCx X A outer s H E scope f c') body (t E))
    (hdb : (x == ("__debug__" : Str)) = false := by decide) (hd : (a == ("__debug__" : Str)) = false := by decide) (hcd : (a == ("__classdict__" : Str)) = false := by decide) :
    PE X (.Call (.Name x p) [.Lambda params body scope lpos] [] pos) (tLam T TT t) := by
  obtain ⟨oc, od, kV, doc, pm, an, cdv, ct, osl, rfl, lk, hcg⟩ := F.ex
  constructor
  rintro pins s σ H Q I ⟨hT, red⟩
  apply wpAny_Call_Name_kw
  refine ld_glob I hg hm ?_ hdb
  refine PySem.W.callWith_K (h₀ := X.base) I.ok.mod.kin hk ?_ (by rfl) (by rfl)
  show wpAny _ _ (spliced ((false, eval (.Lambda params body scope lpos) X.env) :: backTo pos (starEach [] X.env))) _ _ s
  refine Calls.spliced_cons (lam_make2 I TB hcode hmT hu hT hdef (L.has I.ok) fun f c' pm' ctv H1 s' I1 eN T1 hf hfn hfr hco => ?_)
  refine Calls.spliced_nil ⟨I1.kIn, ?_⟩
  have run : codeAny (model X.prog X.w) X.A (.call (.ref g) ⟨[.ref f], []⟩) (CR C8.CX0 X.stack X.prog X.w H1 s' Q C8.E0) s' := by
    refine run_ofS (N := Ng) (ps := [a]) (us := [.ref f]) (vs := [.ref f]) lk hcg Sg hr I1.env0 (hb s' [.ref f] I1.kIn rfl) (.cons rfl .nil) rfl fun hr' => ?_
    obtain ⟨t', h1, h2⟩ := hG cdv f c' s' H1 Q (fun E H' Q' => t E σ H' Q') (fun W pn xe p1 p2 tk => pe_actF (i := 0) (t := t) I1 L hf hfn hfr (hbind _ _ _ _ _) tk hr' fr (fun A outer s H E z1 z2 => hbody A outer s H E f c' z1 z2) hNg hva hd hcd) hco (red H1 eN T1)
    exact ⟨t', h1.nox, h2⟩
  refine wpAny_call (codeAny_mono run fun r s2 hq => ?_)
  match r, hq with
  | .error e, hq => exact (show False from hq).elim
  | .ok (.ret _), hq => exact I1.after hq
  | .ok .next, hq => exact hq.elim
  | .ok .brk, hq => exact hq.elim
  | .ok .cont, hq => exact hq.elim
end
end RR
set_option maxHeartbeats 4000000
namespace RR
open PySem PySem.Spec PyProof.Rows L2 LamX
/-! ### more operators -/
theorem dec_fdiv : Declines .FloorDiv := ⟨_, _, PySem.F.slot_int_floordiv, PySem.F.entry_int_floordiv, fun a b => PySem.F.args_int_floordiv_2 a b, fun a t l C dx =>
  .of_wp fun prog w A R s h => by obtain ⟨hp, g, d, tk, os⟩ := s; obtain ⟨hl, h⟩ := h; unfold PySem.W.instObj at hl; wp_walk; exact ⟨_, rfl, h⟩⟩
theorem dec_mod : Declines .Mod := ⟨_, _, PySem.F.slot_int_mod, PySem.F.entry_int_mod, fun a b => PySem.F.args_int_mod_2 a b, fun a t l C dx =>
  .of_wp fun prog w A R s h => by obtain ⟨hp, g, d, tk, os⟩ := s; obtain ⟨hl, h⟩ := h; unfold PySem.W.instObj at hl; wp_walk; exact ⟨_, rfl, h⟩⟩
section
variable {X : Cx}
/-- one of two readings of an operator -/
theorem op_both {f : Value → Value → Sem Value} {r1 r2 : R2} (h1 : OpR X f r1) (h2 : OpR X f r2) : OpR X f (fun x y H Q => r1 x y H Q ∨ r2 x y H Q) := by
  intro pins s σ H x y v u Q I rx ry h
  rcases h with h | h
  · exact h1 pins s σ H x y v u Q I rx ry h
  · exact h2 pins s σ H x y v u Q I rx ry h
/-- // of ints, the divisor of either sign -/
def CDivS (_ j : Int) : Prop := j ≠ 0 ∧ j.natAbs.log2 < 9000
theorem divS_ok {i j : Int} {b : Nat} (h : j ≠ 0) (hb : j.natAbs < 2 ^ b) (h0 : 0 < b) (h9 : b ≤ 9000) : CDivS i j := ⟨h, Nat.lt_of_lt_of_le (PySem.Flt.log2_lt_of h0 hb) h9⟩
theorem op_fdivS : OpR X (binaryOp .FloorDiv) (rI CDivS fun i j => .int (i.fdiv j)) := L2.opI fun i j _ _ _ _ _ hc q => floordiv_int hc.1 q (.inl (PyProof.noPylong_of_log2 hc.2))
/-- an exception that nobody wishes does not come -/
theorem passX0 : Passes (L2.CX X.prog X.w) X E0 := by
  rintro pins σ H s e s' I ⟨a, B, H', cls, d, _, _, _, _, _, _, _, z⟩
  exact z.elim
end
/-! ### an instance asked whether it is true -/
section
variable {X : Cx} {CX : CXT} {C f : Addr} {n : Nat} {g : Sp} {E : XK}
def tOwnB (C : Addr) (g : Sp) (E : XK) (t : TE) : TT := fun σ H Q => t σ H fun x H1 => (∃ a dx fs, x = .ref a ∧ H1 a = some (.ins C dx fs)) ∧ g [x] H1 (fun v H2 => ∃ b, v = .bl b ∧ Q b H2) E
theorem pt_own {e : Expr} {t : TE} (hs : PySem.W.findIn X.K (.ref C) "__bool__" = some (some (.ref f))) (hf : PySem.W.isFn X.K (.ref f) = true) (F : FnR X.prog X.w X.K X.mg X.base CX n f g) (hr : Room n X.A) (hx : Passes CX X E) (h : PE X e t)
    (he : ∀ whole, isTrue e X.env whole = (do let v ← whole; standAt e.pos; holding [v] (truthy v)) := by intro _; rfl) : PT X e (tOwnB C g E t) := by
  constructor
  intro pins s σ H Q I hw
  refine isTrue_plain (thn (h.run pins s σ H _ I hw) ?_) (he _)
  rintro v s1 ⟨x, H1, I1, r1, ⟨a, dx, fs, rfl, ea⟩, q⟩
  obtain rfl : v = .ref a := r1
  obtain ⟨od, J⟩ := inst_of I1 ea
  obtain ⟨m, fr⟩ := I1.fr
  refine PySem.W.truthy_K fr I1.ok.mod.kin J hs hf ?_
  refine wpAny_mono (wpAny_call (run_fnR (us := [.ref a]) (vs := [.ref a]) F hr hx I1 (.cons rfl .nil) q)) ?_ fun _ _ z => z
  rintro u s2 ⟨z, H2, I2, rz, b, rfl, qz⟩
  obtain rfl : u = .bool b := rz
  exact ⟨H2, I2, qz⟩
end
/-! ### list.count of plain items -/
section
variable {X : Cx}
def rCntF (K : PySem.W.Frag) : V → List V → Hp → VK → Prop := fun x xs H Q => ∃ (a : Addr) (ys : List V) (y : V), x = .ref a ∧ xs = [y] ∧ SqL K H a ys ∧ flatV y = true ∧ ys.all flatV = true ∧ Q (.int (ys.countP fun z => eqV z y : Nat)) H
theorem cnt_flat {y : V} : ∀ {ys : List V} {us : List Value}, Vals ys us → ys.all flatV = true → us.countP (eqU y) = ys.countP fun z => eqV z y
  | _, _, .nil, _ => rfl
  | z :: zs, u :: us, .cons r rs, f => by
    rw [List.all_cons, Bool.and_eq_true] at f
    rw [List.countP_cons, List.countP_cons, cnt_flat rs f.2, eqU_of r f.1]
theorem mt_cntF : MtR X "list.count" (rCntF X.K) := by
  rintro pins s σ H x xs v us Q I rx rxs ⟨a, ys, y, rfl, rfl, hs, fy, fys, q⟩
  cases rx
  obtain ⟨u, rfl, ru⟩ := rxs.one
  obtain ⟨its, rv, ⟨⟨cls, dd, data, sl⟩, n, ho, hc, hdn, hd⟩, hlen⟩ := I.list hs
  simp only at hc hd
  subst hc hd
  refine call_meets PySem.F.slot_list_count ⟨_, ho, rfl⟩ PySem.F.entry_list_count (PySem.F.args_list_count_2 _ _)
    (SeqAt.list_countAt a its.toArray n dd sl u (eqU y)) ⟨ho, fun u' hu' => mem_eqAt ru fy rv fys u' (by simpa using hu'), ?_⟩
  refine ⟨.int (ys.countP fun z => eqV z y : Nat), H, I.tok _, ⟨s.toks, ?_⟩, q⟩
  show Value.int ((its.toArray.toList.countP (eqU y) : Nat) : Int) s.toks = _
  rw [show its.toArray.toList.countP (eqU y) = ys.countP fun z => eqV z y from cnt_flat rv fys]
end
/-! ### fractions that are alike -/
theorem lo_mul {n m : Int} (m0 : 0 < m) : lo n m * m = n * lb n m := by
  have g0 := gd_pos (t := n) m0
  obtain ⟨a, ha⟩ := gd_dvd_l n m
  obtain ⟨b, hb⟩ := gd_dvd_r n m
  have e1 : lo n m = a := by
    unfold lo
    conv => lhs; rw [ha]
    rw [show gd (gd n m * a) m = gd n m by rw [← ha]]
    exact Int.mul_ediv_cancel_left a (Int.ne_of_gt g0)
  have e2 : lb n m = b := by
    unfold lb
    conv => lhs; rw [hb]
    rw [show gd n (gd n m * b) = gd n m by rw [← hb]]
    exact Int.mul_ediv_cancel_left b (Int.ne_of_gt g0)
  rw [e1, e2]
  conv => lhs; rw [hb]
  conv => rhs; rw [ha]
  grind
/-- a fraction in lowest terms is told by its value -/
theorem low_same {t b u d : Int} (h1 : Low t b) (h2 : Low u d) (e : t * d = u * b) : t = u ∧ b = d := by
  have c1 : Nat.gcd t.natAbs b.natAbs = 1 := by have := h1.2; unfold gd at this; omega
  have c2 : Nat.gcd u.natAbs d.natAbs = 1 := by have := h2.2; unfold gd at this; omega
  have e' : t.natAbs * d.natAbs = u.natAbs * b.natAbs := by rw [← Int.natAbs_mul, ← Int.natAbs_mul, e]
  have d1 : b.natAbs ∣ d.natAbs := (Nat.Coprime.dvd_of_dvd_mul_left (k := b.natAbs) (m := t.natAbs) (n := d.natAbs) (by rw [Nat.Coprime, Nat.gcd_comm]; exact c1) ⟨u.natAbs, by rw [e', Nat.mul_comm]⟩)
  have d2 : d.natAbs ∣ b.natAbs := (Nat.Coprime.dvd_of_dvd_mul_left (k := d.natAbs) (m := u.natAbs) (n := b.natAbs) (by rw [Nat.Coprime, Nat.gcd_comm]; exact c2) ⟨t.natAbs, by rw [← e', Nat.mul_comm]⟩)
  have bd : b.natAbs = d.natAbs := Nat.dvd_antisymm d1 d2
  have b0 := h1.1
  have d0 := h2.1
  have hb : b = d := by omega
  subst hb
  exact ⟨Int.eq_of_mul_eq_mul_right (Int.ne_of_gt b0) e, rfl⟩
/-- equal fractions have the same lowest terms -/
theorem lo_same {n m k l : Int} (m0 : 0 < m) (l0 : 0 < l) (e : n * l = k * m) : lo n m = lo k l ∧ lb n m = lb k l := by
  refine low_same (low_of m0) (low_of l0) ?_
  have a1 := lo_mul (n := n) m0
  have a2 := lo_mul (n := k) l0
  have hm : m * l ≠ 0 := Int.mul_ne_zero (Int.ne_of_gt m0) (Int.ne_of_gt l0)
  refine Int.eq_of_mul_eq_mul_right hm ?_
  have p1 : lo n m * lb k l * (m * l) = (lo n m * m) * (lb k l * l) := by grind
  have p2 : lo k l * lb n m * (m * l) = (lo k l * l) * (lb n m * m) := by grind
  rw [p1, p2, a1, a2]
  grind
theorem lo_div {n m : Int} (m0 : 0 < m) : lo n m / lb n m = n / m := by
  have g0 := gd_pos (t := n) m0
  obtain ⟨a, ha⟩ := gd_dvd_l n m
  obtain ⟨b, hb⟩ := gd_dvd_r n m
  unfold lo lb
  generalize gd n m = g at ha hb g0
  subst ha hb
  rw [Int.mul_ediv_cancel_left a (Int.ne_of_gt g0), Int.mul_ediv_cancel_left b (Int.ne_of_gt g0), Int.mul_ediv_mul_of_pos _ _ g0]
end RR
set_option maxHeartbeats 4000000
namespace RR
open PySem PySem.Spec PyProof.Rows L2 LamX
/-! ### o.m(k = v) -/
def tMethK (C : Addr) (m : Str) (n : Nat) (sp : Sp) (gV : List V → List V → List V) (E : XK) (ta : TE) (tk : TA) : TE := fun σ H Q => ta σ H fun x H1 => ∃ a dx fs, x = .ref a ∧ H1 a = some (.ins C dx fs) ∧ fs.lookup m = none ∧
  tk σ H1 fun zs H2 => zs.length = n ∧ sp (gV [x] zs) H2 Q E
theorem pe_methK {X : Cx} {CX : CXT} {k : Nat} {C f : Addr} {fd : FuncData} {ps ks : List Str} {m : Str} {sp : Sp} {E : XK} {o : Expr} {kws : List Keyword} {ta : TE} {tk : TA} {g : List Value → List Value → List Value} {gV : List V → List V → List V} {apos pos : Pos} {pl : Sem Bool}
    (he : PE X o ta) (c : Cls X.K C) (hm : Meth X.K C m f) (F : FnOk X.prog X.w X.K X.mg X.base CX k f fd ps sp) (hr : Room k X.A) (hb : KBn X.K fd ps 1 ks g gV) (hx : Passes CX X E) (hk : PK X kws tk)
    (ht : eval (.Call (.Attribute o m apos) [] kws pos) X.env = (do
      let ov ← eval o X.env
      standAt apos.atName
      let (f, first) ← holding [ov] (getMethod ov m pl)
      callWith pos f first (backTo pos (starEach [] X.env)) (backToKw pos (keywordEach kws X.env))) := by rfl)
    (hall : (backToKw pos (keywordEach kws X.env)).all (·.1.isSome) = true := by rfl) (hks : (backToKw pos (keywordEach kws X.env)).filterMap (·.1) = ks := by rfl)
    (hpl : ((backTo pos (starEach [] X.env)).any (·.1) || (backToKw pos (keywordEach kws X.env)).any (·.1.isNone)) = false := by rfl) :
    PE X (.Call (.Attribute o m apos) [] kws pos) (tMethK C m ks.length sp gV E ta tk) := by
  constructor
  intro pins s σ H Q I h
  refine PySem.W.methodCall_KW (pl := pl) (thn (he.run pins s σ H _ I h) ?_) ht
  rintro u s1 ⟨x, H1, I1, rx, a, dx, fs, rfl, ea, l, q⟩
  obtain rfl : u = .ref a := rx
  refine getmeth_ok I1 ea c hm l ?_
  refine PySem.W.callWith_KW0 (first := [.ref a]) (h₀ := X.base) I.ok.mod.kin hm.kp hall (thn (hk.run pos pins s1 σ H1 _ I1 q) ?_) hpl
  rintro ws s2 ⟨zs, H2, I2, rz, l2, q2⟩
  refine ⟨I2.kIn, ?_⟩
  rw [hks]
  exact run_fnN (us := [.ref a]) (vs := [.ref a]) F hr hb hx I2 (.cons rfl .nil) rz rfl l2 q2
/-! ### quotients and rests -/
/-- the exact quotient, as the class makes it -/
def qT (t b u d : Int) : Int := if u < 0 then -t * d else t * d
def qB (t b u d : Int) : Int := if u < 0 then -u * b else u * b
theorem qB_pos {t b u d : Int} (b0 : 0 < b) (u0 : u ≠ 0) : 0 < qB t b u d := by
  unfold qB
  split
  · exact Int.mul_pos (by omega) b0
  · exact Int.mul_pos (by omega) b0
/-- E: what comes of 0 -/
def spOver (C N : Addr) : Sp := fun vs H Q E => ∃ x y t b u d, vs = [.ref x, y] ∧ RatAt C H x t b ∧ NumV C H y u d ∧ 0 < b ∧ 0 < d ∧ Sm 1000 t ∧ Sm 1000 b ∧ Sm 1000 u ∧ Sm 1000 d ∧
  (u ≠ 0 → NewR C H Q (lo (qT t b u d) (qB t b u d)) (lb (qT t b u d) (qB t b u d))) ∧ (u = 0 → ∀ H', Same H H' → E (.ref N) none H')
def spBool (C : Addr) : Sp := fun vs H Q _ => ∃ x t b, vs = [.ref x] ∧ RatAt C H x t b ∧ Q (.bl (t != 0)) H
def spFdiv (C N : Addr) : Sp := fun vs H Q E => ∃ x y t b u d, vs = [.ref x, y] ∧ RatAt C H x t b ∧ NumV C H y u d ∧ 0 < b ∧ 0 < d ∧ Sm 1000 t ∧ Sm 1000 b ∧ Sm 1000 u ∧ Sm 1000 d ∧
  (u ≠ 0 → ∀ H', Same H H' → Q (.int ((t * d).fdiv (b * u))) H') ∧ (u = 0 → ∀ H', Same H H' → E (.ref N) none H')
/-- i // x -/
def spRfdiv (C N : Addr) : Sp := fun vs H Q E => ∃ x t b u, vs = [.ref x, .int u] ∧ RatAt C H x t b ∧ 0 < b ∧ Sm 1000 t ∧ Sm 1000 b ∧ Sm 1000 u ∧
  (t ≠ 0 → ∀ H', Same H H' → Q (.int ((u * b).fdiv (1 * t))) H') ∧ (t = 0 → ∀ H', Same H H' → E (.ref N) none H')
/-- what is left of t/b, k times u/d taken away -/
def rT (t b u d k : Int) : Int := t * d - k * u * b
def spMod (C N : Addr) : Sp := fun vs H Q E => ∃ x y t b u d, vs = [.ref x, y] ∧ RatAt C H x t b ∧ NumV C H y u d ∧ 0 < b ∧ 0 < d ∧ Sm 120 t ∧ Sm 120 b ∧ Sm 120 u ∧ Sm 120 d ∧
  (u ≠ 0 → NewR C H Q (lo (rT t b u d ((t * d).fdiv (b * u))) (b * d)) (lb (rT t b u d ((t * d).fdiv (b * u))) (b * d))) ∧ (u = 0 → ∀ H', Same H H' → E (.ref N) none H')
/-- i % x -/
def spRmod (C N : Addr) : Sp := fun vs H Q E => ∃ x t b u, vs = [.ref x, .int u] ∧ RatAt C H x t b ∧ 0 < b ∧ Sm 120 t ∧ Sm 120 b ∧ Sm 120 u ∧
  (t ≠ 0 → NewR C H Q (lo (rT u 1 t b ((u * b).fdiv (1 * t))) (1 * b)) (lb (rT u 1 t b ((u * b).fdiv (1 * t))) (1 * b))) ∧ (t = 0 → ∀ H', Same H H' → E (.ref N) none H')
/-- a quotient is no larger than what is divided -/
theorem sm_fdiv {n : Nat} {i j : Int} (h : Sm n i) : Sm n (i.fdiv j) := by
  refine Nat.lt_of_le_of_lt ?_ h
  by_cases j0 : 0 ≤ j
  · rw [Int.fdiv_eq_ediv_of_nonneg i j0]
    exact Int.natAbs_ediv_le_natAbs i j
  · have e : i.fdiv j = (-i).fdiv (-j) := by rw [Int.neg_fdiv_neg]
    rw [e, Int.fdiv_eq_ediv_of_nonneg (-i) (by omega)]
    have := Int.natAbs_ediv_le_natAbs (-i) (-j)
    rw [Int.natAbs_neg] at this
    exact this
/-- t/b less lo/lb of k u/d: in lowest terms what rT tells -/
theorem rest_same {t b u d k n m : Int} (b0 : 0 < b) (d0 : 0 < d) (hn : n = k * u) (hm : m = d) : lo (t * lb n m - lo n m * b) (b * lb n m) = lo (rT t b u d k) (b * d) ∧ lb (t * lb n m - lo n m * b) (b * lb n m) = lb (rT t b u d k) (b * d) := by
  subst hn hm
  have l0 := lb_pos (t := k * u) d0
  refine lo_same (Int.mul_pos b0 l0) (Int.mul_pos b0 d0) ?_
  have a := lo_mul (n := k * u) d0
  unfold rT
  generalize lo (k * u) m = p at a ⊢
  generalize lb (k * u) m = q at a ⊢
  grind
end RR
set_option maxHeartbeats 4000000
namespace RR
open PySem PySem.Spec PyProof.Rows L2 LamX
/-! ### what the law about quotients and rests makes -/
def kF (t b u d : Int) : Int := (t * d).fdiv (b * u)
theorem quo_floor {t b u d : Int} (b0 : 0 < b) (u0 : u ≠ 0) : lo (qT t b u d) (qB t b u d) / lb (qT t b u d) (qB t b u d) = kF t b u d := by
  rw [lo_div (qB_pos b0 u0)]
  unfold qT qB kF
  split
  · have e1 : -t * d = -(t * d) := Int.neg_mul t d
    have e2 : -u * b = -(b * u) := by rw [Int.neg_mul, Int.mul_comm]
    have p : 0 < -u * b := Int.mul_pos (by omega) b0
    rw [e2] at p
    rw [e1, e2, ← Int.fdiv_eq_ediv_of_nonneg _ (Int.le_of_lt p), Int.neg_fdiv_neg]
  · have p : 0 < u * b := Int.mul_pos (by omega) b0
    rw [Int.mul_comm u b] at p ⊢
    rw [Int.fdiv_eq_ediv_of_nonneg _ (Int.le_of_lt p)]
/-- an exact quotient, as a pair -/
def spQuo : Sp := fun vs H Q _ => ∃ p1 p2 t b u d, vs = [.ref p1, .ref p2] ∧ Pr H p1 t b ∧ Pr H p2 u d ∧ 0 < b ∧ 0 < d ∧ u ≠ 0 ∧ Sm 120 t ∧ Sm 120 b ∧ Sm 120 u ∧ Sm 120 d ∧
  ∀ p H', Same H H' → H p = none → Pr H' p (lo (qT t b u d) (qB t b u d)) (lb (qT t b u d) (qB t b u d)) → Q (.ref p) H'
/-- how often it goes, and what is left -/
def spParts : Sp := fun vs H Q _ => ∃ p1 p2 t b u d, vs = [.ref p1, .ref p2] ∧ Pr H p1 t b ∧ Pr H p2 u d ∧ 0 < b ∧ 0 < d ∧ u ≠ 0 ∧ Sm 120 t ∧ Sm 120 b ∧ Sm 120 u ∧ Sm 120 d ∧
  ∀ p r H', Same H H' → H' p = some (.tup [.int (kF t b u d), .ref r]) → Pr H' r (lo (rT t b u d (kF t b u d)) (b * d)) (lb (rT t b u d (kF t b u d)) (b * d)) → Q (.ref p) H'
def spDivided (C : Addr) : Sp := fun vs H Q _ => ∃ x y p1 p2 t b u d, vs = [x, y, .ref p1, .ref p2] ∧ NumV C H x t b ∧ NumV C H y u d ∧ ((∃ a, x = .ref a) ∨ ∃ a, y = .ref a) ∧ Pr H p1 t b ∧ Pr H p2 u d ∧ 0 < b ∧ 0 < d ∧ u ≠ 0 ∧ Sm 120 t ∧ Sm 120 b ∧ Sm 120 u ∧ Sm 120 d ∧
  ∀ H', Same H H' → Q (.bl true) H'
def spPairQ : Sp := fun vs H Q _ => ∃ p1 p2 t b u d, vs = [.ref p1, .ref p2] ∧ Pr H p1 t b ∧ Pr H p2 u d ∧ Low t b ∧ Low u d ∧ u ≠ 0 ∧ Sm 120 t ∧ Sm 120 b ∧ Sm 120 u ∧ Sm 120 d ∧ ∀ H', Same H H' → Q (.bl true) H'
/-- x // y, one of them at least a Ratio -/
theorem divI {C N : Addr} {H : Hp} {Q : VK} {E E' : XK} {x y : V} {t b u d : Int} (r : NumV C H x t b) (n : NumV C H y u d) (or : (∃ a, x = .ref a) ∨ ∃ a, y = .ref a) (b0 : 0 < b) (d0 : 0 < d) (u0 : u ≠ 0) (st : Sm 120 t) (sb : Sm 120 b) (su : Sm 120 u) (sd : Sm 120 d)
    (k : ∀ H', Same H H' → Q (.int (kF t b u d)) H') : rOpL C (spFdiv C N) E x y H Q ∨ rOpR C (spRfdiv C N) E' x y H Q := by
  have TT := fun {i : Int} (h : Sm 120 i) => sm_mono h (by decide : 120 ≤ 1000)
  rcases r with ⟨a, rfl, dx, e⟩ | ⟨rfl, rfl⟩
  · exact .inl ⟨⟨a, dx, _, rfl, e⟩, n.intOr, a, y, t, b, u, d, rfl, ⟨dx, e⟩, n, b0, d0, TT st, TT sb, TT su, TT sd, fun _ => k, fun z => absurd z u0⟩
  · rcases n with ⟨a, rfl, dx, e⟩ | ⟨rfl, rfl⟩
    · exact .inr ⟨⟨t, rfl⟩, ⟨a, dx, _, rfl, e⟩, a, u, d, t, rfl, ⟨dx, e⟩, d0, TT su, TT sd, TT st, fun _ => k, fun z => absurd z u0⟩
    · rcases or with ⟨a, z⟩ | ⟨a, z⟩ <;> cases z
/-- x % y -/
theorem modI {C N : Addr} {H : Hp} {Q : VK} {E E' : XK} {x y : V} {t b u d : Int} (r : NumV C H x t b) (n : NumV C H y u d) (or : (∃ a, x = .ref a) ∨ ∃ a, y = .ref a) (b0 : 0 < b) (d0 : 0 < d) (u0 : u ≠ 0) (st : Sm 120 t) (sb : Sm 120 b) (su : Sm 120 u) (sd : Sm 120 d)
    (k : NewR C H Q (lo (rT t b u d (kF t b u d)) (b * d)) (lb (rT t b u d (kF t b u d)) (b * d))) : rOpL C (spMod C N) E x y H Q ∨ rOpR C (spRmod C N) E' x y H Q := by
  rcases r with ⟨a, rfl, dx, e⟩ | ⟨rfl, rfl⟩
  · exact .inl ⟨⟨a, dx, _, rfl, e⟩, n.intOr, a, y, t, b, u, d, rfl, ⟨dx, e⟩, n, b0, d0, st, sb, su, sd, fun _ => k, fun z => absurd z u0⟩
  · rcases n with ⟨a, rfl, dx, e⟩ | ⟨rfl, rfl⟩
    · exact .inr ⟨⟨t, rfl⟩, ⟨a, dx, _, rfl, e⟩, a, u, d, t, rfl, ⟨dx, e⟩, d0, su, sd, st, fun _ => k, fun z => absurd z u0⟩
    · rcases or with ⟨a, z⟩ | ⟨a, z⟩ <;> cases z
theorem rT_small {t b u d k : Int} (st : Sm 120 t) (sb : Sm 120 b) (su : Sm 120 u) (sd : Sm 120 d) (sk : Sm 240 k) : Sm 500 (rT t b u d k) := by
  unfold rT
  exact sm_mono (sm_sub (sm_mono (sm_mul st sd) (by decide : 120 + 120 ≤ 480)) (sm_mul (sm_mul sk su) sb)) (by decide)
theorem kF_small {t b u d : Int} (st : Sm 120 t) (sd : Sm 120 d) : Sm 240 (kF t b u d) := sm_fdiv (sm_mul st sd)
theorem log_sm {i : Int} {n : Nat} (h : Sm n i) (n0 : 0 < n) (l : n ≤ 1900) : i.natAbs.log2 < 1920 := by
  have := PySem.Flt.log2_lt_of n0 h
  omega
/-- what stands but for the tables -/
theorem PenAt.keepN {H H' : Hp} {p c : Addr} {ns : List Int} {a g : Int} (W : PenAt H p c ns a g) (k : ExtN H H') : PenAt H' p c ns a g := ⟨k _ _ W.pn (fun _ z => by cases z), k _ _ W.cs (fun _ z => by cases z), W.la, W.lb, W.ln⟩
end RR
set_option maxHeartbeats 4000000
namespace RR
open PySem PySem.Spec PyProof.Rows L2 LamX
section
variable {P : Program} {w : World} {K : PySem.W.Frag} {mg : Str → Option Value} {base : Heap} {k : Nat} {f : Addr} {g : Sp}
/-- okG, the def's code object told -/
theorem okGC {x qual : Str} {st : Stmt} {fd : FuncData} {N ps : List Str} (F : Fun K x qual st f fd) (S : FnScope N ps (defScope st)) (hb : Binds K fd ps []) (len : ∀ vs H Q E, g vs H Q E → vs.length = ps.length)
    (body : ∀ (cdv : Value), fd.code = cdv → ∀ (A : Around) (out : List Env) (s : Shared) (H : Hp) (vs : List V) (Q : VK) (E : XK), Room k (A.deeper (envOfC qual (defScope st) s.heap.objs.size f cdv)) → Free (A.deeper (envOfC qual (defScope st) s.heap.objs.size f cdv)) → g vs H Q E →
      ∃ t, PSs (cxOf CX0 P w K mg base N qual (defScope st) f cdv A out s H E).nox (defBody st) t ∧ t { nx := fun _ H' => Q .non H', rt := Q } (start N vs) H) : FnG P w K mg base CX0 (k + 1) f g := by
  obtain ⟨oc, od, kV, doc, pm, an, cdv, ct, osl, rfl, lk, hcd⟩ := F.ex
  intro A out s H us vs Q E hr hfree e0 r hg
  have hl : vs.length = ps.length := len _ _ _ _ hg
  have kin : K.In s.heap := e0.mod.kin.keeps fun b o e => (e0.bs b o e).1
  have lim : s.heap.NoLimit := e0.mod.nolimit.keeps fun b o e => (e0.bs b o e).1
  have hu : (us ++ []).length = ps.length := by rw [List.append_nil, ← r.length]; exact hl
  have bind0 := hb s us kin hu
  rw [List.append_nil] at bind0
  have hkind : ∀ y ∈ ps.zip us, (defScope st).names.lookup y.1 = some .local ∨ ((defScope st).names.lookup y.1 = some .cell ∧ ((cellsFrom (s.heap.objs.size + 1) (defScope st).names []).lookup y.1).isSome = true) := by
    rintro ⟨n, v⟩ hy
    rcases S.par n (List.of_mem_zip hy).1 with q | q
    · exact .inl q
    · exact .inr ⟨q, PySem.W.cellsFrom_some _ _ _ (.inl q)⟩
  refine codeAny_call_function hr.depth (kin _ _ lk) rfl S.co S.gen rfl (PySem.W.codeRec_of kin hcd) (bind0 _ _ _ _ ?_)
  refine wpAny_newFunctionEnv_cells S.kind hkind fun env he s1 xx => ?_
  subst he
  refine ⟨lim.keeps xx.toInCall.keep, codeAny_func ?_⟩
  obtain ⟨t, ht, hq⟩ := body cdv rfl A out s H vs Q E (hr.deeper _) (free_deeper _ hfree) hg
  have I : Inv (cxOf CX0 P w K mg base N qual (defScope st) f cdv A out s H E) [] (start N vs) H s1 := inv_start S hr.hd e0 hl r xx
  refine wpAny_mono (ht.nox.run [] s1 (start N vs) H _ I hq) (fun fl s' hs => ?_) fun e s' hs => hs
  match fl, hs with
  | .ret u, ⟨v, σ', H', J, rv, q⟩ => exact ⟨v, H', J.os, J.bare, J.base, J.hok, rv, q⟩
  | .next, ⟨σ', H', J, q⟩ => exact ⟨V.non, H', J.os, J.bare, J.base, J.hok, rfl, q⟩
  | .brk, ⟨_, _, _, q⟩ => exact q.elim
  | .cont, ⟨_, _, _, q⟩ => exact q.elim
end
/-- what 'heard' makes of a lambda: a list of its value, or ('none',) where it raises N -/
def TTh (N : Addr) : (XK → Hp → VK → Prop) → Hp → VK → Prop := fun tl H Q => ∀ H0, Same H H0 → ∃ (E' : XK) (Q' : VK), tl E' H0 Q' ∧
  (∀ v H1, Q' v H1 → ∀ q H2, Same H1 H2 → H2 q = some (.lst [v]) → Q (.ref q) H2) ∧
  (∀ cls d H1, E' cls d H1 → cls = .ref N ∧ d = none ∧ ∀ q H2, Same H1 H2 → H2 q = some (.tup [.str "none"]) → Q (.ref q) H2)
theorem Tabs.same {T : List (Addr × Str)} {H H' : Hp} (t : Tabs T H) (s : Same H H') : Tabs T H' := t.ext s
theorem extN_same {H H1 H2 : Hp} (e : ExtN H H1) (s : Same H1 H2) : ExtN H H2 := fun b o h n => s b o (e b o h n)
/-- all eight are refused -/
def spRefused (T : List (Addr × Str)) : Sp := fun vs H Q _ => ∃ p t b, vs = [.ref p] ∧ Pr H p t b ∧ Low t b ∧ Sm 120 t ∧ Sm 120 b ∧ Tabs T H ∧ ∀ H', ExtN H H' → Tabs T H' → Q (.bl true) H'
def spLawT (K : PySem.W.Frag) (P : Addr) : Sp := fun vs H Q _ => ∃ (a : Addr) (ns : List Int), vs = [.ref a] ∧ SqL K H a (ns.map V.int) ∧ ns.length ≤ 63 ∧ H P = some (.tbl #[]) ∧ ∀ H', Q (.bl true) H'
/-- a lambda that raises N, its heap grown -/
theorem heardNo {N : Addr} {tl : (XK → Hp → VK → Prop)} {H : Hp} {Q : VK} (h : ∀ H0, Same H H0 → tl (fun cls d H' => cls = .ref N ∧ d = none ∧ Same H0 H') H0 (fun _ _ => False)) (k : ∀ q H2, Same H H2 → H2 q = some (.tup [.str "none"]) → Q (.ref q) H2) : TTh N tl H Q :=
  fun H0 s0 => ⟨_, _, h H0 s0, fun _ _ z => z.elim, fun _ _ _ ⟨a, b, c⟩ => ⟨a, b, fun q H2 s e => k q H2 (s0.trans (c.trans s)) e⟩⟩
theorem tabs_mut {T : List (Addr × Str)} {H : Hp} {L : Addr} {xs ys : List V} (t : Tabs T H) (e : H L = some (.lst xs)) : Tabs T (upd H L (.lst ys)) := by
  intro p hp
  obtain ⟨ps, h1, h2, h3⟩ := t p hp
  refine ⟨ps, (upd_ne (ne_of h1 e fun z => by cases z)).trans h1, h2, fun pos cv hc => ?_⟩
  obtain ⟨c, e1, e2⟩ := h3 pos cv hc
  exact ⟨c, e1, (upd_ne (ne_of e2 e fun z => by unfold CodeO at z; cases z)).trans e2⟩
/-- a list of ('none',) -/
def NoneL (H : Hp) (rs : List V) : Prop := ∀ r ∈ rs, ∃ z, r = .ref z ∧ H z = some (.tup [.str "none"])
theorem NoneL.dp {K : PySem.W.Frag} {H : Hp} : ∀ {rs : List V}, NoneL H rs → DpAll K H rs (List.replicate rs.length (.tuple [.str "none"]))
  | [], _ => .nil
  | r :: rs, h => by
    obtain ⟨z, rfl, e⟩ := h r (List.mem_cons_self)
    exact .cons (.tup (SqT.of e) (.cons (.str _) .nil)) (NoneL.dp fun x hx => h x (List.mem_cons_of_mem _ hx))
structure RefSt (C : Addr) (T : List (Addr × Str)) (H0 H : Hp) (p a1 L q a0 : Addr) (t b : Int) (n : Nat) : Prop where
  ex : ExtN H0 H
  l0 : H0 L = none
  ls : ∃ rs, H L = some (.lst rs) ∧ NoneL H rs ∧ rs.length = n
  ra : RatAt C H a1 t b
  pr : Pr H p t b
  tq : H q = some (.tup [.int 0, .ref a0])
  rz : RatAt C H a0 0 1
  tb : Tabs T H
theorem RatAt.ext {C x : Addr} {H H' : Hp} {t b : Int} (h : RatAt C H x t b) (s : ExtN H H') : RatAt C H' x t b := h.elim fun dx e => ⟨dx, s _ _ e fun _ z => by cases z⟩
theorem RefSt.step {C : Addr} {T : List (Addr × Str)} {H0 H H2 : Hp} {p a1 L q a0 q1 : Addr} {t b : Int} {n : Nat} (S : RefSt C T H0 H p a1 L q a0 t b n) (e : ExtN H H2) (t2 : Tabs T H2) (z : H2 q1 = some (.tup [.str "none"])) :
    ∃ rs, H2 L = some (.lst rs) ∧ rs.length = n ∧ RefSt C T H0 (upd H2 L (.lst (rs ++ [.ref q1]))) p a1 L q a0 t b (n + 1) := by
  obtain ⟨rs, h1, h2, h3⟩ := S.ls
  have hL : H2 L = some (.lst rs) := e _ _ h1 fun _ y => by cases y
  have kept : ∀ {c : Addr} {o : HO}, H2 c = some o → (∀ xs, o ≠ .lst xs) → upd H2 L (.lst (rs ++ [.ref q1])) c = some o := fun ec no => (upd_ne (ne_of ec hL fun y => no _ y)).trans ec
  have rat : ∀ {c : Addr} {i j : Int}, RatAt C H c i j → RatAt C (upd H2 L (.lst (rs ++ [.ref q1]))) c i j := fun r => by
    obtain ⟨dx, ed⟩ := r.ext e
    exact ⟨dx, kept ed fun _ y => by cases y⟩
  refine ⟨rs, hL, h3, ?_, S.l0, ⟨_, upd_same, ?_, by rw [List.length_append, h3]; rfl⟩, rat S.ra, kept (e _ _ S.pr (fun _ y => by cases y)) (fun _ y => by cases y), kept (e _ _ S.tq (fun _ y => by cases y)) (fun _ y => by cases y), rat S.rz, tabs_mut t2 hL⟩
  · intro c o ec no
    rw [upd_ne (ne_of_none ec S.l0)]
    exact e _ _ (S.ex _ _ ec no) no
  · intro r hr
    rcases List.mem_append.mp hr with hr | hr
    · obtain ⟨y, rfl, ey⟩ := h2 r hr
      exact ⟨y, rfl, kept (e _ _ ey fun _ v => by cases v) fun _ v => by cases v⟩
    · rw [List.mem_singleton.mp hr]
      exact ⟨q1, rfl, kept z fun _ v => by cases v⟩
/-- the heap behind the making of a Ratio -/
theorem newR_heap {C x dx : Addr} {H : Hp} {t b : Int} (nx : H x = none) (nd : H dx = none) : ∃ H', H' = upd (upd (upd (upd H dx (.own x)) x (.ins C dx [])) x (.ins C dx [("top", .int (lo t b))])) x (.ins C dx (rfs (lo t b) (lb t b))) ∧ Same H H' ∧ RatAt C H' x (lo t b) (lb t b) := by
  refine ⟨_, rfl, fun c o e => ?_, dx, upd_same⟩
  have h1 : c ≠ x := ne_of_none e nx
  rw [upd_ne h1, upd_ne h1, upd_ne h1, upd_ne (ne_of_none e nd)]
  exact e
theorem tabs_keep {T : List (Addr × Str)} {H H' : Hp} {p : Addr} {xs : List V} (t : Tabs T H) (e : H p = some (.lst xs)) (k : Keep p H H') : Tabs T H' := by
  intro r hr
  obtain ⟨ps, h1, h2, h3⟩ := t r hr
  refine ⟨ps, k _ _ h1 (ne_of h1 e fun z => by cases z), h2, fun pos cv hc => ?_⟩
  obtain ⟨c, e1, e2⟩ := h3 pos cv hc
  exact ⟨c, e1, k _ _ e2 (ne_of e2 e fun z => by unfold CodeO at z; cases z)⟩
end RR
set_option maxHeartbeats 4000000
namespace RR
open PySem PySem.Spec PyProof.Rows L2 LamX
/-! ### the endless ratio, 1/0, on one side at least -/
/-- two numbers, one of them endless -/
structure OneEnd (t b u d : Int) : Prop where
  b0 : 0 ≤ b
  d0 : 0 ≤ d
  or : b = 0 ∨ d = 0
  tb : b = 0 → t = 1
  ud : d = 0 → u = 1
  st : Sm 1000 t
  sb : Sm 1000 b
  su : Sm 1000 u
  sd : Sm 1000 d
/-- x and y, one of them endless: what comes if P holds (Q'), and N where it doesn't -/
def spEnd2 (C N : Addr) (P : Int → Int → Int → Int → Prop) (R : Addr → Int → Int → Int → Int → Hp → VK → Prop) : Sp := fun vs H Q E => ∃ x y t b u d, vs = [.ref x, y] ∧ RatAt C H x t b ∧ NumV C H y u d ∧ OneEnd t b u d ∧
  (P t b u d → R x t b u d H Q) ∧ (¬ P t b u d → ∀ H', Same H H' → E (.ref N) none H')
def pAdd (t b u d : Int) : Prop := 0 ≤ t ∧ 0 ≤ u
def pMul (t b u d : Int) : Prop := 0 < t ∧ 0 < u
def pNo (t b u d : Int) : Prop := False
/-- when a quotient is told: the endless one by a number above 0, or a number by the endless one -/
def pOver (t b u d : Int) : Prop := (b = 0 ∧ d ≠ 0 ∧ 0 < u) ∨ (b ≠ 0 ∧ d = 0)
def rEnd (C : Addr) (_ : Addr) (_ _ _ _ : Int) (H : Hp) (Q : VK) : Prop := NewR C H Q 1 0
def rOver (C : Addr) (_ : Addr) (_ b _ _ : Int) (H : Hp) (Q : VK) : Prop := if b = 0 then NewR C H Q 1 0 else NewR C H Q 0 1
def spEnd0 (C : Addr) : Sp := fun vs H Q _ => vs = [] ∧ NewR C H Q 1 0
def spNegE (C N : Addr) : Sp := fun vs H Q E => ∃ x, vs = [.ref x] ∧ RatAt C H x 1 0 ∧ E (.ref N) none H
def spAbsE (C : Addr) : Sp := fun vs H Q _ => ∃ x, vs = [.ref x] ∧ RatAt C H x 1 0 ∧ ∀ H', Same H H' → Q (.ref x) H'
def spLe (C : Addr) : Sp := fun vs H Q _ => ∃ x y t b u d, vs = [.ref x, y] ∧ RatAt C H x t b ∧ NumV C H y u d ∧ Sm 1000 t ∧ Sm 1000 b ∧ Sm 1000 u ∧ Sm 1000 d ∧ ∀ H', Same H H' → Q (.bl (decide (t * d ≤ u * b))) H'
theorem OneEnd.swap {t b u d : Int} (o : OneEnd t b u d) : OneEnd u d t b := ⟨o.d0, o.b0, o.or.symm, o.ud, o.tb, o.su, o.sd, o.st, o.sb⟩
/-- i op x, x endless -/
def spRefE (C N : Addr) (P : Int → Prop) : Sp := fun vs H Q E => ∃ x u, vs = [.ref x, .int u] ∧ RatAt C H x 1 0 ∧ Sm 1000 u ∧ (P u → NewR C H Q 1 0) ∧ (¬ P u → ∀ H', Same H H' → E (.ref N) none H')
theorem oneEnd_int {u : Int} (h : Sm 1000 u) : OneEnd 1 0 u 1 := ⟨by decide, by decide, .inl rfl, fun _ => rfl, (fun z => by cases z), sm_1 (by decide), sm_0, h, sm_1 (by decide)⟩
end RR
set_option maxHeartbeats 4000000
namespace RR
open PySem PySem.Spec PyProof.Rows L2 LamX
/-- x op y, one of them endless, one of them at least a Ratio (P': what P says of an int on the left and the endless ratio) -/
theorem endI {C N : Addr} {H : Hp} {Q : VK} {E : XK} {P : Int → Int → Int → Int → Prop} {P' : Int → Prop} (hP : ∀ t, P' t ↔ P t 1 1 0) {x y : V} {t b u d : Int} (r : NumV C H x t b) (n : NumV C H y u d) (or : (∃ a, x = .ref a) ∨ ∃ a, y = .ref a) (o : OneEnd t b u d)
    (k : P t b u d → NewR C H Q 1 0) (ke : ¬ P t b u d → ∀ H', Same H H' → E (.ref N) none H') : rOpL C (spEnd2 C N P (rEnd C)) E x y H Q ∨ rOpR C (spRefE C N P') E x y H Q := by
  rcases r with ⟨a, rfl, dx, e⟩ | ⟨rfl, rfl⟩
  · exact .inl ⟨⟨a, dx, _, rfl, e⟩, n.intOr, a, y, t, b, u, d, rfl, ⟨dx, e⟩, n, o, k, ke⟩
  · have d0 : d = 0 := o.or.resolve_left (by decide)
    have u1 := o.ud d0
    subst d0 u1
    rcases n with ⟨a, rfl, dx, e⟩ | ⟨rfl, z⟩
    · exact .inr ⟨⟨t, rfl⟩, ⟨a, dx, _, rfl, e⟩, a, t, rfl, ⟨dx, e⟩, o.st, fun z => k ((hP t).mp z), fun z => ke fun y => z ((hP t).mpr y)⟩
    · cases z
theorem pAdd_int (t : Int) : 0 ≤ t ↔ pAdd t 1 1 0 := ⟨fun h => ⟨h, by decide⟩, fun h => h.1⟩
theorem pMul_int (t : Int) : 0 < t ↔ pMul t 1 1 0 := ⟨fun h => ⟨h, by decide⟩, fun h => h.1⟩
theorem pNo_int (t : Int) : False ↔ pNo t 1 1 0 := ⟨fun h => h.elim, fun h => h.elim⟩
/-- a lambda that tells a value, its heap grown -/
theorem heardYes {N : Addr} {tl : (XK → Hp → VK → Prop)} {H : Hp} {Q : VK} {G : V → Hp → Prop} (h : ∀ H0, Same H H0 → tl (fun _ _ _ => False) H0 (fun v H' => Same H0 H' ∧ G v H')) (k : ∀ v q H1 H2, Same H H1 → G v H1 → Same H1 H2 → H2 q = some (.lst [v]) → Q (.ref q) H2) : TTh N tl H Q :=
  fun H0 s0 => ⟨_, _, h H0 s0, fun v H1 ⟨s1, g⟩ q H2 s2 e => k v q H1 H2 (s0.trans s1) g s2 e, fun _ _ _ z => z.elim⟩
/-- one of both, as it comes -/
theorem heardBoth {N : Addr} {tl : (XK → Hp → VK → Prop)} {H : Hp} {Q : VK} {G : V → Hp → Prop} {B : Prop} (h : ∀ H0, Same H H0 → tl (fun cls d H' => cls = .ref N ∧ d = none ∧ Same H0 H' ∧ ¬ B) H0 (fun v H' => Same H0 H' ∧ G v H' ∧ B))
    (k : B → ∀ v q H1 H2, Same H H1 → G v H1 → Same H1 H2 → H2 q = some (.lst [v]) → Q (.ref q) H2) (k' : ¬ B → ∀ q H2, Same H H2 → H2 q = some (.tup [.str "none"]) → Q (.ref q) H2) : TTh N tl H Q :=
  fun H0 s0 => ⟨_, _, h H0 s0, fun v H1 ⟨s1, g, y⟩ q H2 s2 e => k y v q H1 H2 (s0.trans s1) g s2 e, fun _ _ _ ⟨a, b, c, y⟩ => ⟨a, b, fun q H2 s e => k' y q H2 (s0.trans (c.trans s)) e⟩⟩
/-- left op= right by the number of the deed -/
def pWay (w t b u d : Int) : Prop := (w = 0 ∧ pAdd t b u d) ∨ (w = 2 ∧ pMul t b u d)
def spPlaceE (C N : Addr) : Sp := fun vs H Q E => ∃ x y w t b u d, vs = [x, y, .int w] ∧ NumV C H x t b ∧ NumV C H y u d ∧ ((∃ a, x = .ref a) ∨ ∃ a, y = .ref a) ∧ OneEnd t b u d ∧ 0 ≤ w ∧ w ≤ 4 ∧
  (pWay w t b u d → NewR C H Q 1 0) ∧ (¬ pWay w t b u d → ∀ H', Same H H' → E (.ref N) none H')
/-- what 'told' makes of what was heard -/
def spTold (C : Addr) : Sp := fun vs H Q _ => (∃ q, vs = [.ref q] ∧ H q = some (.tup [.str "none"]) ∧ Q (.ref q) H) ∨
  ∃ q a t b, vs = [.ref q] ∧ H q = some (.lst [.ref a]) ∧ RatAt C H a t b ∧ ∀ p, H p = none → Q (.ref p) (upd H p (.tup [.int t, .int b]))
/-- a pair, in lowest terms or endless, made -/
def spMadeE (C : Addr) : Sp := fun vs H Q _ => ∃ p t b, vs = [.ref p] ∧ Pr H p t b ∧ (Low t b ∨ t = 1 ∧ b = 0) ∧ Sm 5000 t ∧ Sm 5000 b ∧ NewR C H Q t b
end RR
set_option maxHeartbeats 4000000
namespace RR
open PySem PySem.Spec PyProof.Rows L2 LamX
/-! ### lists of what was heard, and of what is told of it -/
/-- what came of a deed: a ratio's top and bottom, or nothing -/
abbrev Deed := Option (Int × Int)
def HeardIs (C : Addr) (H : Hp) (x : V) (o : Deed) : Prop := match o with
  | none => ∃ z, x = .ref z ∧ H z = some (.tup [.str "none"])
  | some (t, b) => ∃ z a, x = .ref z ∧ H z = some (.lst [.ref a]) ∧ RatAt C H a t b
def ToldIs (H : Hp) (x : V) (o : Deed) : Prop := match o with
  | none => ∃ z, x = .ref z ∧ H z = some (.tup [.str "none"])
  | some (t, b) => ∃ z, x = .ref z ∧ H z = some (.tup [.int t, .int b])
inductive Each (R : V → Deed → Prop) : List V → List Deed → Prop
  | nil : Each R [] []
  | cons {x : V} {o : Deed} {xs : List V} {os : List Deed} : R x o → Each R xs os → Each R (x :: xs) (o :: os)
theorem Each.imp {R S : V → Deed → Prop} (h : ∀ x o, R x o → S x o) : ∀ {xs : List V} {os : List Deed}, Each R xs os → Each S xs os
  | _, _, .nil => .nil
  | _, _, .cons r e => .cons (h _ _ r) (e.imp h)
theorem Each.app {R : V → Deed → Prop} {ys : List V} {ps : List Deed} (h : Each R ys ps) : ∀ {xs : List V} {os : List Deed}, Each R xs os → Each R (xs ++ ys) (os ++ ps)
  | _, _, .nil => h
  | _, _, .cons r e => .cons r (Each.app h e)
theorem Each.one {R : V → Deed → Prop} {x : V} {o : Deed} (h : R x o) : Each R [x] [o] := .cons h .nil
theorem Each.len {R : V → Deed → Prop} : ∀ {xs : List V} {os : List Deed}, Each R xs os → xs.length = os.length
  | _, _, .nil => rfl
  | _, _, .cons _ e => congrArg Nat.succ e.len
theorem Each.get {R : V → Deed → Prop} : ∀ {xs : List V} {os : List Deed}, Each R xs os → ∀ (i : Nat) (x : V), xs[i]? = some x → ∃ o, os[i]? = some o ∧ R x o
  | _, _, .nil, i, x, h => by cases h
  | _, _, .cons (o := o) r e, 0, x, h => by
    cases h
    exact ⟨o, rfl, r⟩
  | _, _, .cons r e, i + 1, x, h => e.get i x h
def toldD (o : Deed) : PyData := match o with
  | none => .tuple [.str "none"]
  | some (t, b) => .tuple [.int t, .int b]
theorem ToldIs.dp {K : PySem.W.Frag} {H : Hp} {x : V} {o : Deed} (h : ToldIs H x o) : Dp K H x (toldD o) := by
  match o, h with
  | none, ⟨z, e, h1⟩ => subst e; exact .tup (SqT.of h1) (.cons (.str _) .nil)
  | some (t, b), ⟨z, e, h1⟩ => subst e; exact .tup (SqT.of h1) (.cons (.int _) (.cons (.int _) .nil))
theorem Each.dp {K : PySem.W.Frag} {H : Hp} : ∀ {xs : List V} {os : List Deed}, Each (ToldIs H) xs os → DpAll K H xs (os.map toldD)
  | _, _, .nil => .nil
  | _, _, .cons r e => .cons r.dp e.dp
theorem lay_told : ∀ os : List Deed, PyData.canLayAll0 (os.map toldD) = true
  | [] => rfl
  | o :: r => by
    show (PyData.canLay0 (toldD o) && PyData.canLayAll0 (r.map toldD)) = true
    rw [lay_told r]
    rcases o with _ | ⟨t, b⟩ <;> simp [toldD, PyData.canLay0, PyData.canLayAll0] <;> decide +kernel
theorem dep_told : ∀ os : List Deed, PyData.depthAll (os.map toldD) ≤ 1
  | [] => by decide
  | o :: r => by
    show max (PyData.depth (toldD o)) (PyData.depthAll (r.map toldD)) ≤ 1
    have h1 := dep_told r
    have h2 : PyData.depth (toldD o) = 1 := by rcases o with _ | ⟨t, b⟩ <;> rfl
    omega
theorem shaped_told (os : List Deed) : SeqAt.shaped (.list (os.map toldD)) = true := by
  unfold SeqAt.shaped
  rw [Bool.and_eq_true]
  refine ⟨lay_told os, ?_⟩
  show decide (PyData.depthAll (os.map toldD) + 1 ≤ 64) = true
  have := dep_told os
  exact decide_eq_true (by omega)
theorem eqv_told1 (o : Deed) : PyData.eqv (toldD o) (toldD o) = true := by
  rcases o with _ | ⟨t, b⟩
  · decide +kernel
  · show PyData.eqv (.tuple [.int t, .int b]) (.tuple [.int t, .int b]) = true
    simp [PyData.eqv, PyData.eqvAll]
theorem eqv_toldA : ∀ os : List Deed, PyData.eqvAll (os.map toldD) (os.map toldD) = true
  | [] => by simp [PyData.eqvAll]
  | o :: r => by
    rw [List.map_cons]
    show PyData.eqvAll (toldD o :: r.map toldD) (toldD o :: r.map toldD) = true
    rw [PyData.eqvAll, eqv_told1, eqv_toldA r]
    rfl
theorem eqv_told (os : List Deed) : PyData.eqv (.list (os.map toldD)) (.list (os.map toldD)) = true := by
  rw [PyData.eqv, eqv_toldA]
theorem HeardIs.keep {C : Addr} {H H' : Hp} {x : V} {o : Deed} (h : HeardIs C H x o) (k : ∀ z u, H z = some u → (∀ ps, u ≠ .tbl ps) → H' z = some u) : HeardIs C H' x o := by
  match o, h with
  | none, ⟨z, e, h⟩ => exact ⟨z, e, k _ _ h fun _ y => by cases y⟩
  | some (t, b), ⟨z, a, e, h, dx, r⟩ => exact ⟨z, a, e, k _ _ h (fun _ y => by cases y), dx, k _ _ r fun _ y => by cases y⟩
theorem ToldIs.keep {H H' : Hp} {x : V} {o : Deed} (h : ToldIs H x o) (k : Same H H') : ToldIs H' x o := by
  match o, h with
  | none, ⟨z, e, h⟩ => exact ⟨z, e, k _ _ h⟩
  | some (t, b), ⟨z, e, h⟩ => exact ⟨z, e, k _ _ h⟩
theorem NumV.ext {C : Addr} {H H' : Hp} {v : V} {t b : Int} (h : NumV C H v t b) (s : ExtN H H') : NumV C H' v t b := by
  rcases h with ⟨a, e, dx, r⟩ | h
  · exact .inl ⟨a, e, dx, s _ _ r fun _ y => by cases y⟩
  · exact .inr h
/-- a lambda, whatever comes of it -/
theorem heardO {C N : Addr} {tl : (XK → Hp → VK → Prop)} {H : Hp} {Q : VK} {o : Deed}
    (h : ∀ H0, Same H H0 → tl (fun cls d H' => cls = .ref N ∧ d = none ∧ Same H0 H' ∧ o = none) H0 (fun v H' => Same H0 H' ∧ ∃ a t b, v = .ref a ∧ RatAt C H' a t b ∧ o = some (t, b)))
    (k : ∀ q H2, Same H H2 → HeardIs C H2 (.ref q) o → Q (.ref q) H2) : TTh N tl H Q :=
  fun H0 s0 => ⟨_, _, h H0 s0, fun v H1 ⟨s1, a, t, b, e, r, y⟩ q H2 s2 e2 => by
      subst e y
      exact k q H2 (s0.trans (s1.trans s2)) ⟨q, a, rfl, e2, r.same s2⟩,
    fun _ _ _ ⟨e1, e2, s1, y⟩ => ⟨e1, e2, fun q H2 s2 e => by
      subst y
      exact k q H2 (s0.trans (s1.trans s2)) ⟨q, rfl, e⟩⟩⟩
/-- under way: the list L of what was heard so far -/
structure DSt (C : Addr) (T : List (Addr × Str)) (H0 H : Hp) (L : Addr) (x y : V) (t b u d : Int) (os : List Deed) : Prop where
  ex : ExtN H0 H
  l0 : ∀ u, H0 L = some u → ∃ ps, u = .tbl ps
  ls : ∃ xs, H L = some (.lst xs) ∧ Each (HeardIs C H) xs os
  nx : NumV C H x t b
  ny : NumV C H y u d
  tb : Tabs T H
theorem heard_noL {C : Addr} {H : Hp} {L : Addr} {xs : List V} {os : List Deed} (h : Each (HeardIs C H) xs os) (hL : H L = some (.lst xs)) {v : V} {o : Deed} (r : HeardIs C H v o) : v ≠ .ref L := by
  intro e
  match o, r with
  | none, ⟨z, e1, h1⟩ =>
    cases e1.symm.trans e
    rw [hL] at h1
    cases h1
  | some (t, b), ⟨z, a, e1, h1, dx, r⟩ =>
    cases e1.symm.trans e
    rw [hL] at h1
    cases h1
    cases h with
    | cons r2 _ =>
      rename_i o2 _ _
      match o2, r2 with
      | none, ⟨z, e2, h2⟩ =>
        cases e2
        rw [r] at h2
        cases h2
      | some (t, b), ⟨z, a, e2, h2, _⟩ =>
        cases e2
        rw [r] at h2
        cases h2
theorem Each.imp' {R S : V → Deed → Prop} : ∀ {xs : List V} {os : List Deed}, (∀ x o, x ∈ xs → R x o → S x o) → Each R xs os → Each S xs os
  | _, _, _, .nil => .nil
  | _, _, h, .cons r e => .cons (h _ _ (List.mem_cons_self) r) (e.imp' fun x o hx => h x o (List.mem_cons_of_mem _ hx))
theorem DSt.step {C : Addr} {T : List (Addr × Str)} {H0 H H2 : Hp} {L q1 : Addr} {x y : V} {t b u d : Int} {os : List Deed} {o : Deed} (S : DSt C T H0 H L x y t b u d os) (e : ExtN H H2) (t2 : Tabs T H2) (z : HeardIs C H2 (.ref q1) o) :
    ∃ xs, H2 L = some (.lst xs) ∧ xs.length = os.length ∧ DSt C T H0 (upd H2 L (.lst (xs ++ [.ref q1]))) L x y t b u d (os ++ [o]) := by
  obtain ⟨xs, h1, h2⟩ := S.ls
  have hL : H2 L = some (.lst xs) := e _ _ h1 fun _ y => by cases y
  have kept : ∀ {c : Addr} {o : HO}, H2 c = some o → c ≠ L → upd H2 L (.lst (xs ++ [.ref q1])) c = some o := fun ec no => (upd_ne no).trans ec
  have num : ∀ {v : V} {i j : Int}, NumV C H v i j → NumV C (upd H2 L (.lst (xs ++ [.ref q1]))) v i j := fun r => by
    rcases r.ext e with ⟨a, e1, dx, r1⟩ | r1
    · exact .inl ⟨a, e1, dx, kept r1 (ne_of r1 hL fun y => by cases y)⟩
    · exact .inr r1
  have hear : ∀ {v : V} {o : Deed}, HeardIs C H2 v o → v ≠ .ref L → HeardIs C (upd H2 L (.lst (xs ++ [.ref q1]))) v o := by
    intro v o h n
    match o, h with
    | none, ⟨z, e1, h⟩ => exact ⟨z, e1, kept h fun y => n (by rw [e1, y])⟩
    | some (t, b), ⟨z, a, e1, h, dx, r⟩ => exact ⟨z, a, e1, kept h (fun y => n (by rw [e1, y])), dx, kept r (ne_of r hL fun y => by cases y)⟩
  have hx2 : Each (HeardIs C H2) xs os := h2.imp fun v o r => r.keep e
  refine ⟨xs, hL, h2.len, ?_, S.l0, ⟨_, upd_same, ?_⟩, num S.nx, num S.ny, tabs_mut t2 hL⟩
  · intro c u ec no
    rw [upd_ne fun y => by
      subst y
      obtain ⟨ps, y⟩ := S.l0 _ ec
      exact no _ y]
    exact e _ _ (S.ex _ _ ec no) no
  · exact Each.app (.one (hear z (heard_noL hx2 hL z))) (hx2.imp fun v o r => hear r (heard_noL hx2 hL r))
theorem DSt.start {C : Addr} {T : List (Addr × Str)} {H0 H : Hp} {L q1 : Addr} {x y : V} {t b u d : Int} {o : Deed} (e : ExtN H0 H) (tb : Tabs T H) (nL : H L = none) (z : HeardIs C H (.ref q1) o) (nx : NumV C H0 x t b) (ny : NumV C H0 y u d) :
    DSt C T H0 (upd H L (.lst [.ref q1])) L x y t b u d [o] := by
  refine ⟨extN_same e (Same.new nL), fun u h => ?_, ⟨_, upd_same, .one (z.keep fun c u h _ => hp_new h nL)⟩, (nx.ext e).same (Same.new nL), (ny.ext e).same (Same.new nL), Tabs.same tb (Same.new nL)⟩
  cases u with
  | tbl ps => exact ⟨ps, rfl⟩
  | _ =>
    have := e _ _ h fun _ y => by cases y
    rw [nL] at this
    cases this
theorem told_app {H : Hp} {D : Addr} {ys : List V} {y : V} {os : List Deed} {i : Nat} {o : Deed} (e : H D = some (.lst ys)) (h : Each (ToldIs H) ys (os.take i)) (ho : os[i]? = some o) (r : ToldIs H y o) :
    Each (ToldIs (upd H D (.lst (ys ++ [y])))) (ys ++ [y]) (os.take (i + 1)) := by
  have k : ∀ v o, ToldIs H v o → ToldIs (upd H D (.lst (ys ++ [y]))) v o := by
    intro v o h
    match o, h with
    | none, ⟨z, e1, h⟩ => exact ⟨z, e1, (upd_ne (ne_of h e fun y => by cases y)).trans h⟩
    | some (t, b), ⟨z, e1, h⟩ => exact ⟨z, e1, (upd_ne (ne_of h e fun y => by cases y)).trans h⟩
  have i1 : i < os.length := (List.getElem?_eq_some_iff.mp ho).1
  have e2 : os.take (i + 1) = os.take i ++ [o] := by
    rw [List.take_succ, ho]
    rfl
  rw [e2]
  exact Each.app (.one (k _ _ r)) (h.imp k)
/-! ### what is due -/
instance (t b u d : Int) : Decidable (pAdd t b u d) := by unfold pAdd; infer_instance
instance (t b u d : Int) : Decidable (pMul t b u d) := by unfold pMul; infer_instance
def plusO (t b u d : Int) : Deed := if pAdd t b u d then some (1, 0) else none
def timesO (t b u d : Int) : Deed := if pMul t b u d then some (1, 0) else none
def overO (t b u d : Int) : Deed := if b = 0 then (if d ≠ 0 ∧ 0 < u then some (1, 0) else none) else (if d = 0 then some (0, 1) else none)
def dues (t b u d : Int) (r : Bool) : List Deed :=
  [plusO t b u d, none, timesO t b u d, none, none, plusO t b u d, none, timesO t b u d, none, none] ++ (if r then [overO t b u d] else [])

/-- left, right, one of them endless: all that comes of both -/
def spDeeds (C : Addr) (T : List (Addr × Str)) : Sp := fun vs H Q _ => ∃ x y t b u d r, vs = [x, y] ∧ NumV C H x t b ∧ NumV C H y u d ∧ ((∃ a, x = .ref a) ∨ ∃ a, y = .ref a) ∧ OneEnd t b u d ∧ (r = true ↔ ∃ a, x = .ref a) ∧ Tabs T H ∧
  ∀ q H', ExtN H H' → Tabs T H' → (∃ ys, H' q = some (.lst ys) ∧ Each (ToldIs H') ys (dues t b u d r)) → Q (.ref q) H'
def spDue : Sp := fun vs H Q _ => ∃ p1 p2 t b u d r, vs = [.ref p1, .ref p2, .bl r] ∧ Pr H p1 t b ∧ Pr H p2 u d ∧ OneEnd t b u d ∧
  ∀ q H', Same H H' → (∃ ys, H' q = some (.lst ys) ∧ Each (ToldIs H') ys (dues t b u d r)) → Q (.ref q) H'
end RR
namespace RR
theorem overO_no {t b u d : Int} (o : OneEnd t b u d) (z : ¬ pOver t b u d) : overO t b u d = none := by
  unfold overO pOver at *
  split
  · rename_i y
    exact if_neg fun q => z (.inl ⟨y, q.1, q.2⟩)
  · rename_i y
    exact if_neg fun q => z (.inr ⟨y, q⟩)
theorem overO_1 {t b u d : Int} (y : b = 0) (z : pOver t b u d) : overO t b u d = some (1, 0) := by
  unfold overO pOver at *
  rw [if_pos y]
  rcases z with z | z
  · exact if_pos ⟨z.2.1, z.2.2⟩
  · exact absurd y z.1
theorem overO_2 {t b u d : Int} (y : ¬ b = 0) (z : pOver t b u d) : overO t b u d = some (0, 1) := by
  unfold overO pOver at *
  rw [if_neg y]
  rcases z with z | z
  · exact absurd z.1 y
  · exact if_pos z.2
end RR
namespace RR
theorem dues_f (t b u d : Int) : dues t b u d false = [plusO t b u d, none, timesO t b u d, none, none, plusO t b u d, none, timesO t b u d, none, none] := rfl
theorem dues_t (t b u d : Int) : dues t b u d true = [plusO t b u d, none, timesO t b u d, none, none, plusO t b u d, none, timesO t b u d, none, none, overO t b u d] := rfl
end RR
namespace RR
theorem no_dec {p : Prop} [Decidable p] (h : ¬ decide p = true) : ¬ p := fun y => h (decide_eq_true y)
end RR
namespace RR
open PySem PySem.Spec PyProof.Rows L2 LamX
/-- in lowest terms, or endless -/
def LowE (t b : Int) : Prop := Low t b ∨ t = 1 ∧ b = 0
def spPairE (T : List (Addr × Str)) : Sp := fun vs H Q _ => ∃ p1 p2 t b u d, vs = [.ref p1, .ref p2] ∧ Pr H p1 t b ∧ Pr H p2 u d ∧ OneEnd t b u d ∧ LowE t b ∧ LowE u d ∧ Tabs T H ∧ ∀ H', ExtN H H' → Tabs T H' → Q (.bl true) H'
theorem Pr.ext {H H' : Hp} {p : Addr} {t b : Int} (h : Pr H p t b) (s : ExtN H H') : Pr H' p t b := s _ _ h fun _ z => by cases z
theorem ExtN.same {H H1 H2 : Hp} (e : ExtN H H1) (s : Same H1 H2) : ExtN H H2 := extN_same e s
theorem one_end1 {t b : Int} (l : Low t b) (st : Sm 100 t) (sb : Sm 100 b) : OneEnd t b 1 0 := ⟨Int.le_of_lt l.1, by decide, .inr rfl, fun z => absurd z (Int.ne_of_gt l.1), fun _ => rfl, sm_mono st (by decide), sm_mono sb (by decide), sm_1 (by decide), sm_0⟩
end RR
namespace RR
open PySem PySem.Spec PyProof.Rows L2 LamX
/-- one Ratio is the other -/
def spEqR (C : Addr) : Sp := fun vs H Q _ => ∃ x t b y u d, vs = [.ref x, .ref y] ∧ RatAt C H x t b ∧ RatAt C H y u d ∧ Q (.bl (decide (t = u ∧ b = d))) H
theorem eqL {C : Addr} {H : Hp} {Q : VK} {E : XK} {a c : Addr} {t b u d : Int} (r : RatAt C H a t b) (n : RatAt C H c u d) (k : Q (.bl (decide (t = u ∧ b = d))) H) : rOpL C (spEqR C) E (.ref a) (.ref c) H Q := by
  obtain ⟨dx, e⟩ := r
  obtain ⟨dy, f⟩ := n
  exact ⟨⟨a, dx, _, rfl, e⟩, .inr ⟨c, dy, _, rfl, f⟩, a, t, b, c, u, d, rfl, ⟨dx, e⟩, ⟨dy, f⟩, k⟩
end RR
namespace RR
open PySem PySem.Spec PyProof.Rows L2 LamX
theorem oneEnd_self : OneEnd 1 0 1 0 := ⟨by decide, by decide, .inl rfl, fun _ => rfl, fun _ => rfl, sm_1 (by decide), sm_0, sm_1 (by decide), sm_0⟩
def spLawE (K : PySem.W.Frag) (T : List (Addr × Str)) : Sp := fun vs H Q _ => ∃ (a : Addr) (ns : List Int), vs = [.ref a] ∧ SqL K H a (ns.map V.int) ∧ ns.length ≤ 63 ∧ Tabs T H ∧ ∀ H', Q (.bl true) H'
end RR
set_option maxHeartbeats 4000000
namespace RR
open PySem PySem.Spec PyProof.Rows L2 LamX
section
variable {X : Cx} {CX : CXT} {C f : Addr} {n : Nat} {g : Sp} {E : XK}
/-- a def's call at a place further in -/
theorem run_in {A : Around} {pins : List (Addr × Obj)} {σ : L2.St} {H : Hp} {s : Shared} {Q : VK} {us : List Value} {vs : List V} (F : FnR X.prog X.w X.K X.mg X.base CX n f g) (hr : Room n A) (e0 : Env0 X.prog X.w X.K X.mg X.base A X.stack s H) (hx : Passes CX X E) (I : Inv X pins σ H s) (r : Vals vs us) (h : g vs H Q E) :
    wpAny (model X.prog X.w) A (call (.ref f) us) (EP X pins σ Q) X.xe s := by
  refine wpAny_call (codeAny_mono (F A X.stack s H us vs Q E hr e0 r h) fun rr s' hq => ?_)
  cases rr with
  | error e => exact hx pins σ H s e s' I hq
  | ok fl =>
    cases fl with
    | ret u => exact I.after hq
    | next => exact False.elim hq
    | brk => exact False.elim hq
    | cont => exact False.elim hq
/-- str(x), x an instance with its own text -/
def rStrO (C : Addr) (g : Sp) (E : XK) : List V → Hp → VK → Prop := fun xs H Q => (∃ a dx fs, xs = [.ref a] ∧ H a = some (.ins C dx fs)) ∧ g xs H (fun v H' => ∃ z, v = .str z ∧ Q v H') E
theorem str_back {pins : List (Addr × Obj)} {σ : L2.St} {Q : VK} {v : Value} {s' : Shared} (h : EP X pins σ (fun v H' => ∃ z, v = .str z ∧ Q v H') v s') : PySem.W.StrBack (EP X pins σ Q) v s' := by
  obtain ⟨x, H', I', rx, z, rfl, q⟩ := h
  obtain ⟨t, rfl⟩ := rx
  exact ⟨.str z, H', I', ⟨t, rfl⟩, q⟩
theorem call_strO (hs : PySem.W.findIn X.K (.ref C) "__str__" = some (some (.ref f))) (hf : PySem.W.isFn X.K (.ref f) = true) (F : FnR X.prog X.w X.K X.mg X.base CX n f g) (hr : Room (n + 2) X.A) (hx : Passes CX X E) : CallR X (.type "str") (rStrO C g E) := by
  intro pins s σ H xs us Q I rv h
  obtain ⟨⟨a, dx, fs, rfl, ea⟩, q⟩ := h
  obtain ⟨u, rfl, ru⟩ := rv.one
  obtain rfl : u = .ref a := ru
  obtain ⟨od, J⟩ := inst_of I ea
  have hr2 : Room n X.A.in1.in1 := (show Room (n + 1) X.A.in1 from Room.in1 hr).in1
  exact PySem.W.kso_call hr2.units0 I.kIn J hs hf (wpAny_mono (run_in (us := [.ref a]) (vs := [.ref a]) F hr2 I.env0.in1.in1 hx I (.cons rfl .nil) q) (fun v s' z => str_back z) fun _ _ z => z)
/-- repr(x), likewise -/
theorem call_reprO (hs : PySem.W.findIn X.K (.ref C) "__repr__" = some (some (.ref f))) (hf : PySem.W.isFn X.K (.ref f) = true) (F : FnR X.prog X.w X.K X.mg X.base CX n f g) (hr : Room (n + 1) X.A) (hx : Passes CX X E) : CallR X (.builtin "repr") (rStrO C g E) := by
  intro pins s σ H xs us Q I rv h
  obtain ⟨⟨a, dx, fs, rfl, ea⟩, q⟩ := h
  obtain ⟨u, rfl, ru⟩ := rv.one
  obtain rfl : u = .ref a := ru
  obtain ⟨od, J⟩ := inst_of I ea
  obtain ⟨m, fr⟩ := I.fr
  have hr2 : Room n X.A.in1 := Room.in1 hr
  exact PySem.W.repr_K hr2.units0 fr I.ok.mod.kin J hs hf (wpAny_mono (run_in (us := [.ref a]) (vs := [.ref a]) F hr2 I.env0.in1 hx I (.cons rfl .nil) q) (fun v s' z => str_back z) fun _ _ z => z)
/-- {x}, likewise -/
def tFmtO (C : Addr) (g : Sp) (E : XK) (te : TE) : TE := fun σ H Q => te σ H fun x H1 => rStrO C g E [x] H1 Q
theorem pe_fmtO {e : Expr} {te : TE} {pos : Pos} (hs : PySem.W.findIn X.K (.ref C) "__str__" = some (some (.ref f))) (hf : PySem.W.isFn X.K (.ref f) = true) (hfm : PySem.W.findIn X.K (.ref C) "__format__" = some (some (.builtin "object.__format__"))) (hm : PySem.W.mroIn X.K C (.type "object") = some true)
    (F : FnR X.prog X.w X.K X.mg X.base CX n f g) (hr : Room (n + 1) X.A) (hx : Passes CX X E) (he : PE X e te) : PE X (.FormattedValue e (-1) none pos) (tFmtO C g E te) := by
  refine ⟨fun pins s σ H Q I h => ?_⟩
  refine wpAny_FormattedValue_plain (thn (he.run pins s σ H _ I h) fun v s1 hv => ?_)
  obtain ⟨x, H1, I1, r1, ⟨a, dx, fs, ex, ea⟩, q⟩ := hv
  cases ex
  obtain rfl : v = .ref a := r1
  obtain ⟨od, J⟩ := inst_of I1 ea
  have hr2 : Room n X.A.in1 := Room.in1 hr
  have I2 := I1.tok (s1.toks + 1)
  exact PySem.W.kfo_fieldS hr2.units0 I1.kIn J hfm hm hs hf (wpAny_mono (run_in (us := [.ref a]) (vs := [.ref a]) F hr2 I2.env0.in1 hx I2 (.cons rfl .nil) q) (fun v s' z => str_back z) fun _ _ z => z)
/-- x == y, x an instance of C, y of any kind that comes not ahead of it -/
def rCmpY (K : PySem.W.Frag) (C : Addr) (g : Sp) (E : XK) : R2 := fun x y H Q => ∃ a dx fs t, x = .ref a ∧ H a = some (.ins C dx fs) ∧ TyX K H y t ∧ PySem.W.notFirst K C t = true ∧ g [x, y] H Q E
theorem op_cmpY {cop : CmpOp} (hop : ∀ a b, compareOp cop a b = richCompare cop a b) (hs : PySem.W.findIn X.K (.ref C) (cmpInfo cop).2.1 = some (some (.ref f))) (hf : PySem.W.isFn X.K (.ref f) = true) (F : FnR X.prog X.w X.K X.mg X.base CX n f g) (hr : Room n X.A) (hx : Passes CX X E) :
    OpR X (compareOp cop) (rCmpY X.K C g E) := by
  intro pins s σ H x y v u Q I rx ry h
  obtain ⟨a, dx, fs, t, rfl, ea, ty, hn, q⟩ := h
  obtain rfl : v = .ref a := rx
  obtain ⟨od, J⟩ := inst_of I ea
  obtain ⟨m, fr⟩ := I.fr
  obtain ⟨P, Z, hP, _⟩ := kit_of I ry ty
  rw [hop]
  refine PySem.W.cmp_K hr.units0 fr I.ok.mod.kin J (Z.ty _ _ I.kIn hP) hn hs hf ?_
  refine wpAny_mono (wpAny_call (run_fnR (us := [.ref a, u]) (vs := [.ref a, y]) F hr hx I (.cons rfl (.cons ry .nil)) q)) ?_ fun _ _ z => z
  rintro z s2 ⟨z', H2, I2, rz, qz⟩
  exact back_of rz ⟨z', H2, I2, rz, qz⟩
/-- x != y, likewise, by the class's == -/
def rNeY (K : PySem.W.Frag) (C : Addr) (g : Sp) (E : XK) : R2 := fun x y H Q => ∃ a dx fs t, x = .ref a ∧ H a = some (.ins C dx fs) ∧ TyX K H y t ∧ PySem.W.notFirst K C t = true ∧ g [x, y] H (fun v H' => ∃ b, v = .bl b ∧ Q (.bl (!b)) H') E
theorem ifBoundB {M : Model} {A : Around} {Er : Value → Shared → Prop} {s : Shared} {K : PySem.W.Frag} {x C : Addr} {ox : Obj} {od : Option Obj} {name : Str} {id : String} {args : List Value} {Q : Option Value → Shared → Prop} (Xk : K.In s.heap) (I : PySem.W.InstAt s.heap x ox C od)
    (hs : PySem.W.findIn K (.ref C) name = some (some (.builtin id))) (hb : ∀ self, bindSpecial (.builtin id) self = pure (.builtin id, [self])) (h : wpAny M A (call (.builtin id) (.ref x :: args)) (fun v => Q (some v)) Er s) : wpAny M A (callSpecialIfBound? (.ref x) name args) Q Er s := by
  simp only [callSpecialIfBound?, bindSpecialIfBound?]
  refine wpAny_holding (wpAny_bind (wpAny_bind (wpAny_bind (I.type.here ((PySem.W.looks_findIn Xk hs).here ?_)))))
  refine wpAny_bind (wpAny_askSetting (wpAny_ite ?_))
  have fin : wpAny M A (call (.builtin id) ([.ref x] ++ args) >>= fun v => pure (some v)) Q Er s := wpAny_bind (wpAny_mono h (fun v s' h' => wpAny_pure h') fun _ _ h' => h')
  split
  · exact wpAny_bind ((PySem.W.Looks.of_pure (hb _)).here (wpAny_pure (by exact fin)))
  · exact wpAny_tryCatch (wpAny_bind ((PySem.W.Looks.of_pure (hb _)).here (wpAny_pure (by exact fin))))
theorem ne_try {A : Around} {Er : Value → Shared → Prop} {s : Shared} {x C f : Addr} {K : PySem.W.Frag} {ox : Obj} {od : Option Obj} {b : Value} {P : Program} {w : World} {Q : Value → Shared → Prop} (Xk : K.In s.heap) (I : PySem.W.InstAt s.heap x ox C od)
    (hne : PySem.W.findIn K (.ref C) "__ne__" = some (some (.builtin "object.__ne__"))) (hm : PySem.W.mroIn K C (.type "object") = some true) (hs : PySem.W.findIn K (.ref C) "__eq__" = some (some (.ref f))) (hf : PySem.W.isFn K (.ref f) = true) (hu : A.in1.units < cLine)
    (h : wpAny (model P w) A.in1 (call (.ref f) [.ref x, b]) (fun v s' => ∃ c, v = .bool c ∧ Q (.bool (!c)) s') Er s) : wpAny (model P w) A (tryCompare (.ref x) "__ne__" b) (fun r s' => ∃ v, r = some v ∧ Q v s') Er s := by
  unfold tryCompare
  refine wpAny_bind (ifBoundB Xk I hne PySem.F.cmp_object.ne.bind ?_)
  refine wpAny_call (codeAny_call_builtin PySem.F.cmp_object.ne.plain PySem.F.cmpEntry_ne (PySem.W.check_slot (i := "object.__ne__") (owner := "object") (n := "__ne__") (by decide +kernel) (by decide +kernel) (I.type.andThen (PySem.W.looks_mroIn Xk hm)) (PySem.F.cmpArgs_ne _ _) ?_))
  unfold Builtin.«object.__ne__»
  refine wpAny_bind (m := slotArgs "__ne__" 1 _) (wpAny_pure ?_)
  refine wpAny_bind (m := cRoomFor _ _) (wpAny_cRoomFor hu ?_)
  refine wpAny_bind (m := callSpecialIfBound? (.ref x) (Str.ofString "__eq__") _) (PySem.W.ifBound_K Xk I hs hf (wpAny_mono h (fun r s' hr => ?_) fun _ _ y => y))
  obtain ⟨c, rfl, q⟩ := hr
  refine wpAny_bind (wpAny_pure ?_)
  exact wpAny_pure (wpAny_pure ⟨_, rfl, q⟩)
theorem op_neY (hne : PySem.W.findIn X.K (.ref C) "__ne__" = some (some (.builtin "object.__ne__"))) (hm : PySem.W.mroIn X.K C (.type "object") = some true) (hs : PySem.W.findIn X.K (.ref C) "__eq__" = some (some (.ref f))) (hf : PySem.W.isFn X.K (.ref f) = true)
    (F : FnR X.prog X.w X.K X.mg X.base CX n f g) (hr : Room (n + 1) X.A) (hx : Passes CX X E) : OpR X (compareOp .NotEq) (rNeY X.K C g E) := by
  intro pins s σ H x y v u Q I rx ry h
  obtain ⟨a, dx, fs, t, rfl, ea, ty, hn, q⟩ := h
  obtain rfl : v = .ref a := rx
  obtain ⟨od, J⟩ := inst_of I ea
  obtain ⟨m, fr⟩ := I.fr
  obtain ⟨P, Z, hP, _⟩ := kit_of I ry ty
  have Xk := I.kIn
  have hr2 : Room n X.A.in1 := Room.in1 hr
  have one : wpAny (model X.prog X.w) X.A (tryCompare (.ref a) "__ne__" u) (fun r s' => ∃ v, r = some v ∧ EP X pins σ Q v s') X.xe s := by
    refine ne_try Xk J hne hm hs hf hr2.units0 (wpAny_mono (run_in (us := [.ref a, u]) (vs := [.ref a, y]) F hr2 I.env0.in1 hx I (.cons rfl (.cons ry .nil)) q) ?_ fun _ _ z => z)
    rintro z s2 ⟨z', H2, I2, rz, b, rfl, qz⟩
    obtain rfl : z = .bool b := rz
    exact ⟨b, rfl, .bl (!b), H2, I2, rfl, qz⟩
  have hb : PySem.W.Looks (model X.prog X.w) s.heap (typeOf u) t := Z.ty _ _ I.kIn hP
  show wpAny _ _ (richCompare .NotEq (.ref a) u) _ _ _
  unfold richCompare
  simp only [oneThing_ref]
  refine wpAny_holding (wpAny_bind (wpAny_cRoomFor hr.units0 ?_))
  refine wpAny_bind (J.type.here (wpAny_bind (hb.here ?_)))
  split
  · rename_i q
    have e : PySem.W.subIn X.K t (.ref C) = some false := by
      rcases Bool.or_eq_true_iff.mp hn with e | e
      · rw [beq_iff_eq.mp e] at q; simp at q
      · exact beq_iff_eq.mp e
    refine wpAny_bind ((PySem.W.looks_subIn Xk e).here ?_)
    simp only [Bool.false_eq_true, if_false]
    refine wpAny_bind (wpAny_mono one (fun r s' z => ?_) fun _ _ e => e)
    obtain ⟨v, rfl, hq⟩ := z
    exact wpAny_pure hq
  · refine wpAny_bind (wpAny_pure ?_)
    simp only [Bool.false_eq_true, if_false]
    refine wpAny_bind (wpAny_mono one (fun r s' z => ?_) fun _ _ e => e)
    obtain ⟨v, rfl, hq⟩ := z
    exact wpAny_pure hq
/-! ### a caught exception, with a field -/
def rIsX2 (K : PySem.W.Frag) : List V → Hp → VK → Prop := fun xs H Q =>
  ∃ (a D : Addr) (d : Option Addr) (c : V) (cv : Value) (b : Bool), xs = [.ref a, c] ∧ ExcC K D ∧ H a = some (HeldX (.ref D) d a) ∧ (d = none ∨ ∃ dd fs, d = some dd ∧ H dd = some (.xd fs)) ∧ (∀ u, RelV c u → u = cv) ∧ PySem.W.kitOne K (.ref D) cv = some b ∧ Q (.bl b) H
theorem held_inst {pins : List (Addr × Obj)} {σ : L2.St} {H : Hp} {s : Shared} {a D : Addr} {d : Option Addr} (I : Inv X pins σ H s) (ha : H a = some (HeldX (.ref D) d a)) (hd : d = none ∨ ∃ dd fs, d = some dd ∧ H dd = some (.xd fs)) : ∃ oe od, PySem.W.InstAt s.heap a oe D od := by
  obtain ⟨⟨oe, he, hz, vs, hdt⟩, _, _⟩ := I.hok a _ ha
  rcases hd with rfl | ⟨dd, fs, rfl, ed⟩
  · refine ⟨oe, none, he, hz.1, by unfold PySem.W.notCls; rw [hdt] <;> rfl, ?_⟩
    rw [hz.2]
    trivial
  · obtain ⟨mA, hns, hr⟩ := (show ObjOk X.prog X.w H s.heap dd (.xd fs) from I.hok dd _ ed)
    obtain ⟨od, ho, hl⟩ := lookIn_ns hns
    exact ⟨oe, some od, he, hz.1, by unfold PySem.W.notCls; rw [hdt] <;> rfl, by rw [hz.2]; exact ho⟩
theorem call_isX2 : CallR X (.builtin "isinstance") (rIsX2 X.K) := by
  rintro pins s σ H xs us Q I r ⟨a, D, d, c, cv, b, rfl, T, ha, hd, hcv, e, q⟩
  match us, r with
  | [_, _], .cons rx (.cons rc .nil) =>
    cases rx
    obtain rfl := hcv _ rc
    obtain ⟨oe, od, J⟩ := held_inst I ha hd
    have hcl : (PySem.W.clsIn X.K D).isSome = true := by
      obtain ⟨cd, hc, _⟩ := PySem.W.any_some T.hd
      rw [hc]
      rfl
    exact PySem.W.kia_one (PySem.W.kitx_exc hcl T.hg T.hk T.hs T.ha T.hn T.ht T.hm) I.kIn J e (fun z => nomatch z) fun tk => ⟨.bl b, H, I.kept (t' := tk) fun _ _ z => z, rfl, q⟩
/-- x.f, x such an exception -/
def tAtX (K : PySem.W.Frag) (f : Str) (te : TE) : TE := fun σ H Q => te σ H fun x H1 => ∃ (a D dd : Addr) (v : V), x = .ref a ∧ ExcC K D ∧ PySem.W.findIn K (.ref D) f = some none ∧ H1 a = some (HeldX (.ref D) (some dd) a) ∧ H1 dd = some (.xd [(f, v)]) ∧ Q v H1
theorem pe_atX {f : Str} {e : Expr} {te : TE} {pos : Pos} (he : PE X e te) (hb : attributeBase e f X.env (eval e X.env) = eval e X.env := by rfl) : PE X (.Attribute e f pos) (tAtX X.K f te) := by
  refine ⟨fun pins s σ H Q I h => ?_⟩
  refine attr_of hb (thn (he.run pins s σ H _ I h) fun u s1 hh => ?_)
  obtain ⟨x, H1, I1, rx, a, D, dd, v, rfl, T, hno, ha, hd, q⟩ := hh
  obtain rfl : u = Value.ref a := rx
  obtain ⟨⟨oe, he, hz, vs, hdt⟩, _, _⟩ := I1.hok a _ ha
  obtain ⟨mA, hns, hr⟩ := (show ObjOk X.prog X.w H1 s1.heap dd (.xd [(f, v)]) from I1.hok dd _ hd)
  obtain ⟨od, ho, hl⟩ := lookIn_ns hns
  have l : List.lookup f [(f, v)] = some v := by simp [List.lookup]
  obtain ⟨u, hu, ru⟩ := RelO.some_of (v := v) (o := mA f) (by rw [← l]; exact hr f)
  have J : PySem.W.InstAt s1.heap a oe D (some od) := ⟨he, hz.1, by unfold PySem.W.notCls; rw [hdt] <;> rfl, by rw [hz.2]; exact ho⟩
  exact HandSPX.exc_get I1.kIn J T.hg T.hk T.hs (PySem.W.findObj_own T.hd hno rfl (by rw [hl, hu])) (handed_of ru) ⟨v, H1, I1.tok _, ru, q⟩
end
end RR
namespace PySem
namespace LowA
open PySem.W PySem.Calls PyProof.Rows PySem.HandSPX
/-! ### the text of __init__ -/
def iA (p1 p2 : Pos) : Arguments := { posonlyargs := [], args := [{ arg := "self", annotation := none, pos := p1 }, { arg := "at", annotation := none, pos := p2 }], vararg := none, kwonlyargs := [], kw_defaults := [], kwarg := none, defaults := [] }
def iB (q1 q2 q3 q4 : Pos) : List Stmt := [.Assign [.Attribute (.Name "self" q1) "at" q2] (.Name "at" q3) q4]
def iS : Scope := { kind := .function, names := [(PySem.Str.ofString "self", .local), (PySem.Str.ofString "at", .local)], isGenerator := false, isCoroutine := false, more := [] }
/-- what the written part says of Low, at C, and of its __init__, at fI -/
structure LowTxt (K : Frag) (mg : Str → Option Value) (cn qn : Str) (C fI : Addr) : Prop where
  gC : mg cn = some (.ref C)
  cls : ∃ nm q N bs bm sn sub ab col dd k0 k1 k2 k3 k5, K.lookup C = some (excClassObj nm q C N bs bm true sn sub ab col dd k0 k1 k2 k3 k5 "ValueError.__new__") ∧ refsVE bm = true
  sa : findIn K (.ref C) "__setattr__" = some (some (.builtin "object.__setattr__"))
  ga : findIn K (.ref C) "__getattribute__" = some (some (.builtin "BaseException.__getattribute__"))
  gg : findIn K (.ref C) "__getattr__" = some none
  noN : findIn K (.ref C) "at" = some none
  iC : findIn K (.ref C) "__init__" = some (some (.ref fI))
  tC : typeIn K (.ref fI) = some (.type "function")
  kC : keepIn K (.ref C) = true
  exC : subIn K (.ref C) (.type "BaseException") = some true
  tyC : typeIn K (.ref C) = some (.type "type")
  hdC : hasDictIn K C = true
  te : exmOne K (.ref C) (.ref C) = some true
  fn : ∃ (oc : Value) (od : Option Addr) (doc pm : Value) (an : Option Addr) (cdv ct : Value) (osl : Array (Option Value)) (p1 p2 q1 q2 q3 q4 : Pos),
    K.lookup fI = some ⟨oc, od, .func (fnOf "__init__" qn (iA p1 p2) (iB q1 q2 q3 q4) iS .none .none doc pm an cdv ct), osl⟩ ∧ codeIn K cdv qn = true
theorem one_size (v : Value) : [v].length ≤ sizeLine := by
  rw [sizeLine_eq]
  exact (by decide : 1 ≤ 16777216)
theorem kept_but {K : Frag} {h h' : Heap} {x : Addr} (X : K.In h) (hx : K.lookup x = none) (k : ∀ b o, b ≠ x → h.get? b = some o → h'.get? b = some o) : K.In h' := fun a o e =>
  k a o (fun z => by rw [z, hx] at e; cases e) (X a o e)
theorem ldC {M : Model} {s : Shared} {name : Str} {scope : Scope} {L a : Addr} {cd : Value} {m : Str → Option Value} {x : Str} {pos : Pos} {v : Value} {Q : Value → Shared → Prop} {A : Around} {E : Value → Shared → Prop} (hn : s.heap.Ns L m) (hv : m x = some v) (h : Q v s)
    (hk : scope.kind = .function := by rfl) (hl : (envOfC name scope L a cd).kindOf x = some .local := by rfl) (hd : (x == ("__debug__" : Str)) = false := by decide) :
    wpAny M A (eval (.Name x pos) (envOfC name scope L a cd)) Q E s := wpAny_Name (wpAny_loadName_local hk hl hn hv h) hd
/-- what __init__ leaves of a fresh exception at x -/
structure InitEnd (h h' : Heap) (x C dx t1 : Addr) (v : Value) : Prop where
  keep : ∀ b o, b ≠ x → h.get? b = some o → h'.get? b = some o
  obj : h'.get? x = some { cls := .ref C, dict := some dx, data := .fields #[.ref t1, .none, .none, .none, .bool false, .none] }
  dbig : h.objs.size ≤ dx
  dne : dx ≠ x
  ns : h'.Ns1 dx (fun y => if y = "at" then some v else none)
/-- a made Low -/
structure OwnMade (h h' : Heap) (e C d : Addr) (v : Value) : Prop where
  keep : ∀ b o, h.get? b = some o → h'.get? b = some o
  new : h.objs.size ≤ e
  obj : ∃ oe vs, h'.get? e = some oe ∧ oe.cls = .ref C ∧ oe.dict = some d ∧ oe.data = .fields vs ∧ vs[1]? = some .none
  dbig : h.objs.size ≤ d
  dne : d ≠ e
  ns : h'.Ns1 d (fun y => if y = "at" then some v else none)
section
variable {prog : Program} {w : World} {A : Around} {E : Value → Shared → Prop} {R : Result → Shared → Prop} {s : Shared} {K : Frag} {mg : Str → Option Value} {C fI : Addr} {cn qn : Str}
theorem low_init (T : LowTxt K mg cn qn C fI) {x t0 : Addr} {v : Value} (X : K.In s.heap) (hlim : s.heap.NoLimit) (hx : s.heap.get? x = some (excO C t0)) (hnx : K.lookup x = none) (hroom : A.depth < recursionLimit)
    (hq : ∀ h' tk dx, InitEnd s.heap h' x C dx t0 v → R (.ok (.ret .none)) { s with heap := h', toks := tk }) :
    codeAny (model prog w) A (.call (.ref fI) ⟨[.ref x, v], []⟩) R s := by
  obtain ⟨oc, od, doc, pm, an, cdv, ct, osl, p1, p2, q1, q2, q3, q4, ho, hcd⟩ := T.fn
  obtain ⟨nm, q, N, bs, bm, sn, sub, ab, col, dd, k0, k1, k2, k3, k5, hC, hbm⟩ := T.cls
  have hcl : clsIn K C = some { name := nm, bases := bs, mro := .ref C :: bm, ns := N, qualname := q, hasDict := true, slotNames := sn, subclasses := sub, abstract := ab, collection := col, hasDel := false } := by unfold clsIn; rw [hC] <;> rfl
  refine Att.call_fn (binds := [("self", .ref x), ("at", v)]) X hlim ho hcd hroom (BindsTo.of_eq (by first | rfl | with_unfolding_all rfl)) (by first | rfl | decide | with_unfolding_all rfl) (fun s₁ IC => ?_) rfl rfl rfl
  obtain ⟨h₁, tk₁, rfl⟩ := IC.toInCall.same
  have k : ∀ b o, s.heap.get? b = some o → h₁.get? b = some o := IC.toInCall.keep
  have hn := IC.toInCall.ns
  have hxL : s.heap.objs.size ≠ x := Nat.ne_of_gt (Heap.lt_size hx)
  have X₁ : K.In h₁ := X.keeps k
  have hx₁ := k _ _ hx
  -- self.by = by
  show wpAny _ _ (execs _ _) _ _ _
  refine wpAny_execs_cons (plainObj_wpAny_Assign_Attribute ?_)
  refine ldC (v := v) hn (by first | rfl | with_unfolding_all rfl | kernel_rfl) (ldC (v := .ref x) hn (by first | rfl | with_unfolding_all rfl | kernel_rfl) ?_)
  refine set_plain X₁ (ox := excO C t0) (od := none) ⟨hx₁, rfl, rfl, trivial⟩ T.sa ?_
  refine exc_osa X₁ hx₁ hcl (show refsVE (.ref C :: bm) = true from hbm) rfl T.noN (fun h₃ tk₃ dx k₃ dn dne hx₃ hn₃ => ?_)
  show wpAny _ _ (execs _ _) _ _ _
  have z : s.heap.objs.size < h₁.objs.size := hn.lt
  exact wpAny_execs_nil (hq h₃ tk₃ dx ⟨fun b o hb e => k₃ b o hb (k b o e), hx₃, Nat.le_of_lt (Nat.lt_of_lt_of_le z dn), dne, hn₃⟩)
theorem low_made (T : LowTxt K mg cn qn C fI) {v : Value} (X : K.In s.heap) (hlim : s.heap.NoLimit) (hroom : A.depth + 1 < recursionLimit)
    (hq : ∀ h' tk e d, OwnMade s.heap h' e C d v → R (.ok (.ret (.ref e))) { s with heap := h', toks := tk }) :
    codeAny (model prog w) A (.call (.ref C) ⟨[v], []⟩) R s := by
  obtain ⟨nm, q, N, bs, bm, sn, sub, ab, col, dd, k0, k1, k2, k3, k5, hC, hbm⟩ := T.cls
  obtain ⟨hp, g, dr, tk, os⟩ := s
  have k : ∀ b o, hp.get? b = some o → ((hp.push (kdv_tup [v])).push (excO C hp.objs.size)).get? b = some o := fun b o e => Heap.get?_push_of_some _ (Heap.get?_push_of_some _ e)
  have hget : ((hp.push (kdv_tup [v])).push (excO C hp.objs.size)).get? (hp.objs.size + 1) = some (excO C hp.objs.size) := by heap_get
  have hnx : K.lookup (hp.objs.size + 1) = none := by
    cases e : K.lookup (hp.objs.size + 1) with
    | none => rfl
    | some o =>
      have z : hp.get? (hp.objs.size + 1) = some o := X _ _ e
      exact absurd (Nat.lt_of_succ_lt (Heap.lt_size z)) (Nat.lt_irrefl _)
  refine call_own F.excBase_ValueError (fun X => refsVE_contains X bm hbm) (X _ _ hC) (looks_findIn X T.iC) (fun self => bind_fn X self T.tC) (one_size v) ?_
  refine low_init (s := ⟨(hp.push (kdv_tup [v])).push (excO C hp.objs.size), g, dr, tk, os⟩) T (X.keeps k) (hlim.keeps k) hget hnx ?_ fun h' tk' dx ⟨k', hx, dn, dne, hns⟩ => ?_
  · show A.depth + 1 < recursionLimit
    exact hroom
  · have old : ∀ b o, hp.get? b = some o → h'.get? b = some o := fun b o e => k' b o (Nat.ne_of_lt (Nat.lt_succ_of_lt (Heap.lt_size e))) (k b o e)
    have z : hp.objs.size + 1 + 1 ≤ dx := by
      first
        | (simpa only [Heap.size_push] using dn)
        | exact dn
        | (have q := dn; rw [Heap.size_push, Heap.size_push] at q; exact q)
    exact ⟨rfl, hq h' tk' (hp.objs.size + 1) dx ⟨old, Nat.le_succ _, ⟨_, _, hx, rfl, rfl, rfl, rfl⟩, Nat.le_trans (Nat.le_trans (Nat.le_succ _) (Nat.le_succ _)) z, dne, hns⟩⟩
end
end LowA
end PySem
namespace L2
open PySem PySem.Spec PyProof.Rows
theorem relO_lowA {v : V} {v' : Value} (r : RelV v v') (f : Str) : RelO (List.lookup f [(("at" : Str), v)]) (if f = "at" then some v' else none) := by
  by_cases hw : f = "at"
  · subst hw
    rw [if_pos rfl]
    have q : List.lookup ("at" : Str) [(("at" : Str), v)] = some v := by simp [List.lookup]
    rw [q]
    exact r
  · rw [if_neg hw]
    have qw : (f == ("at" : Str)) = false := by simpa using hw
    have q2 : List.lookup f [(("at" : Str), v)] = none := by simp [List.lookup, qw]
    rw [q2]
    trivial
section
variable {X : Cx} {C fI : Addr} {cn qn : Str}
/-- Low(e) -/
def tMkLowA (C : Addr) (ta : TA) : St → Hp → XK → Prop := fun σ H Q => ta σ H fun vs H1 => ∃ v, vs = [v] ∧ ∀ d, H1 d = none → Q (.ref C) (some d) (upd H1 d (.xd [(("at" : Str), v)]))
theorem pmk_lowA {a : Expr} {ta : TA} {p pos : Pos} {k : Nat} (T : PySem.LowA.LowTxt X.K X.mg cn qn C fI) (hr : Room k X.A) (ha : PA X [a] ta) (hg : Gl X cn) (hdb : (cn == ("__debug__" : Str)) = false := by decide)
    (he : starEach (a :: []) X.env = (false, eval a X.env) :: starEach [] X.env := by rfl) (hpl : (backTo pos (starEach [] X.env)).any (·.1) = false := by rfl) :
    PMk X (.Call (.Name cn p) [a] [] pos) (tMkLowA C ta) := by
  intro pins s σ H Q I h
  refine wpAny_Call_Name_kw (ld_glob I hg T.gC ?_ hdb)
  refine PySem.W.callWith_K (h₀ := X.base) I.ok.mod.kin T.kC (thn (ha.run pos pins s σ H _ I h) fun us s1 hh => ?_) he hpl
  obtain ⟨vs, H1, I1, r1, v, ev, q1⟩ := hh
  subst ev
  refine ⟨I1.kIn, ?_⟩
  cases r1 with
  | cons rv rn =>
    rename_i v' us'
    cases rn
    show wpAny _ _ (call (.ref C) [v']) _ _ _
    have hlim := I1.nolimit
    obtain ⟨hp, g, dr, tk, os⟩ := s1
    refine wpAny_call (PySem.LowA.low_made T I1.kIn hlim (by have := hr.dp; omega) fun h' tk' e d M => ?_)
    show MkP X pins σ Q (.ref e) ⟨h', g, dr, tk', os⟩
    obtain ⟨oe, fv, hoe, hc, hd, hdat, h1⟩ := M.obj
    have hns := M.ns
    obtain ⟨G', g1, g2⟩ := restrict h' fun b => decide (b ≠ e)
    have gk : ∀ b, b ≠ e → G'.get? b = h'.get? b := fun b hb => g1 b (decide_eq_true hb)
    have ge : G'.get? e = none := g2 e (by simp)
    have old : ∀ b o, hp.get? b = some o → G'.get? b = some o := fun b o q => (gk b (Nat.ne_of_lt (Nat.lt_of_lt_of_le (Heap.lt_size q) M.new))).trans (M.keep b o q)
    have ob : ObjOk X.prog X.w (upd H1 d (.xd [(("at" : Str), v)])) G' d (.xd [(("at" : Str), v)]) :=
      ⟨_, hns.at (fun o q => (gk d M.dne).trans q), fun f => relO_lowA rv f⟩
    have J : Inv X pins σ (upd H1 d (.xd [(("at" : Str), v)])) ⟨G', g, dr, tk', os⟩ := I1.laid (t' := tk') old M.dbig ob
    refine ⟨e, oe, fv, ⟨G', g, dr, tk', os⟩, _, .ref C, some d, rfl, J, fun b o q => ?_, ge, hoe, ⟨hc, hd⟩, hdat, h1, ?_, rfl, I1.bare, raises_own T.exC T.tyC, q1 d (I1.hok.fresh M.dbig)⟩
    · by_cases hb : b = e
      · have q' : G'.get? b = some o := q
        rw [hb, ge] at q'; cases q'
      · exact (gk b hb).symm.trans q
    · rw [upd_ne (Ne.symm M.dne)]
      exact I1.hok.fresh M.new
/-- raise Low(e) -/
def tRaiseLowA (C : Addr) (W : WX) (ta : TA) : TS := fun _ σ H => tMkLowA C ta σ H fun cls d H' => W cls d σ H'
theorem ps_raiseLowA {a : Expr} {ta : TA} {W : WX} {p pos pos2 : Pos} {k : Nat} (hc : X.calm = true) (T : PySem.LowA.LowTxt X.K X.mg cn qn C fI) (hr : Room k X.A) (tk : Takes X W) (ha : PA X [a] ta) (hg : Gl X cn) (hdb : (cn == ("__debug__" : Str)) = false := by decide)
    (he : starEach (a :: []) X.env = (false, eval a X.env) :: starEach [] X.env := by rfl) (hpl : (backTo pos (starEach [] X.env)).any (·.1) = false := by rfl) :
    PS X (.Raise (some (.Call (.Name cn p) [a] [] pos)) none pos2) (tRaiseLowA C W ta) := ps_raise hc tk (pmk_lowA T hr ha hg hdb he hpl)
/-- low.by, low the exception that the suite holds (at a; its class cls, its dict d) -/
def tByLowA (C : Addr) (a : Addr) (cls : Value) (d : Option Addr) (te : TE) : TE := fun σ H Q => te σ H fun x H1 => x = .ref a ∧ cls = .ref C ∧ ∃ (dd : Addr) (v : V), d = some dd ∧ H1 dd = some (.xd [(("at" : Str), v)]) ∧ Q v H1
theorem pe_byLowA {a : Addr} {oe : Obj} {cls : Value} {d : Option Addr} {pn : List (Addr × Obj)} {e : Expr} {te : TE} {pos : Pos} (T : PySem.LowA.LowTxt X.K X.mg cn qn C fI) (hz : Zc cls d oe) (hf : ∃ vs, oe.data = .fields vs) (he : PE (X.suite a ((a, oe) :: pn)) e te)
    (hb : attributeBase e "at" X.env (eval e X.env) = eval e X.env := by rfl) :
    PE (X.suite a ((a, oe) :: pn)) (.Attribute e "at" pos) (tByLowA C a cls d te) := by
  refine ⟨fun pins s σ H Q I h => ?_⟩
  refine attr_of hb (thn (he.run pins s σ H _ I h) fun u s1 hh => ?_)
  obtain ⟨x, H1, I1, rx, ex, ec, dd, v, ed, ea, q⟩ := hh
  subst ex
  obtain rfl : u = Value.ref a := rx
  subst ec
  subst ed
  obtain ⟨ha, _⟩ := I1.pin (a, oe) (List.mem_append_left _ List.mem_cons_self)
  obtain ⟨vs, hd⟩ := hf
  have hx : ObjOk X.prog X.w H1 s1.heap dd (.xd [(("at" : Str), v)]) := I1.hok dd _ ea
  obtain ⟨mA, hns, hr⟩ := hx
  obtain ⟨od, ho, hl⟩ := lookIn_ns hns
  have l : List.lookup ("at" : Str) [(("at" : Str), v)] = some v := by simp [List.lookup]
  obtain ⟨u, hu, ru⟩ := RelO.some_of (v := v) (o := mA "at") (by rw [← l]; exact hr "at")
  have J : PySem.W.InstAt s1.heap a oe C (some od) := ⟨ha, hz.1, by unfold PySem.W.notCls; rw [hd] <;> rfl, by rw [hz.2]; exact ho⟩
  exact HandSPX.exc_get I1.kIn J T.ga T.gg T.exC (PySem.W.findObj_own T.hdC T.noN rfl (by rw [hl, hu])) (handed_of ru) ⟨v, H1, I1.tok _, ru, q⟩
end
end L2

set_option maxHeartbeats 4000000
namespace RR
open PySem PySem.Spec PyProof.Rows L2 LamX
/-! ### an int on the left of a comparison -/
/-- the int's own comparison declines an instance -/
def DeclC (op : CmpOp) : Prop := ∃ (id : String) (B : Builtin), Slot "int" (cmpInfo op).2.1 id ∧ entryFor table id = some B ∧ (∀ a b, argsOk id ⟨[a, b], []⟩) ∧
  ∀ (a : Int) (t : Tok) (l C dx : Addr), Meets (B ⟨[.int a t, .ref l], []⟩) (fun _ R s => s.heap.get? l = some (PySem.W.instObj C dx) ∧ R (.ok (.ret Value.notImplemented)) s)
theorem decC_lt : DeclC .Lt := ⟨_, _, PySem.F.slot_int_lt, PySem.F.entry_int_lt, fun a b => PySem.F.args_int_lt_2 a b, fun a t l C dx =>
  .of_wp fun prog w A R s h => by obtain ⟨hp, g, d, tk, os⟩ := s; obtain ⟨hl, h⟩ := h; unfold PySem.W.instObj at hl; wp_walk; exact ⟨_, rfl, h⟩⟩
theorem decC_le : DeclC .LtE := ⟨_, _, PySem.F.slot_int_le, PySem.F.entry_int_le, fun a b => PySem.F.args_int_le_2 a b, fun a t l C dx =>
  .of_wp fun prog w A R s h => by obtain ⟨hp, g, d, tk, os⟩ := s; obtain ⟨hl, h⟩ := h; unfold PySem.W.instObj at hl; wp_walk; exact ⟨_, rfl, h⟩⟩
theorem decC_gt : DeclC .Gt := ⟨_, _, PySem.F.slot_int_gt, PySem.F.entry_int_gt, fun a b => PySem.F.args_int_gt_2 a b, fun a t l C dx =>
  .of_wp fun prog w A R s h => by obtain ⟨hp, g, d, tk, os⟩ := s; obtain ⟨hl, h⟩ := h; unfold PySem.W.instObj at hl; wp_walk; exact ⟨_, rfl, h⟩⟩
theorem decC_ge : DeclC .GtE := ⟨_, _, PySem.F.slot_int_ge, PySem.F.entry_int_ge, fun a b => PySem.F.args_int_ge_2 a b, fun a t l C dx =>
  .of_wp fun prog w A R s h => by obtain ⟨hp, g, d, tk, os⟩ := s; obtain ⟨hl, h⟩ := h; unfold PySem.W.instObj at hl; wp_walk; exact ⟨_, rfl, h⟩⟩
section
variable {X : Cx} {CX : CXT} {C f : Addr} {n : Nat} {g : Sp} {E : XK}
/-- i < x and its like -/
theorem op_cmpR {cop : CmpOp} (hop : ∀ a b, compareOp cop a b = richCompare cop a b) (D : DeclC cop) (sub : PySem.W.subIn X.K (.ref C) (.type "int") = some false) (hs : PySem.W.findIn X.K (.ref C) (cmpInfo cop).2.2 = some (some (.ref f))) (hf : PySem.W.isFn X.K (.ref f) = true)
    (F : FnR X.prog X.w X.K X.mg X.base CX n f g) (hr : Room n X.A) (hx : Passes CX X E) : OpR X (compareOp cop) (rOpR C g E) := by
  intro pins s σ H x y v u Q I rx ry h
  obtain ⟨⟨i, rfl⟩, ⟨a, dx, fs, rfl, ea⟩, q⟩ := h
  obtain ⟨t, rfl⟩ := rx
  obtain rfl : u = .ref a := ry
  obtain ⟨od, J⟩ := inst_of I ea
  have Xk := I.kIn
  obtain ⟨id, B, slot, entry, args, meets⟩ := D
  have hat : s.heap.get? a = some (PySem.W.instObj C dx) := J.at_
  have one : wpAny (model X.prog X.w) X.A (tryCompare (.ref a) (cmpInfo cop).2.2 (.int i t)) (fun r s' => ∃ v, r = some v ∧ EP X pins σ Q v s') X.xe s := by
    unfold tryCompare
    refine wpAny_bind (PySem.W.ifBound_K Xk J hs hf (wpAny_mono (wpAny_call (run_fnR (us := [.ref a, .int i t]) (vs := [.ref a, .int i]) F hr hx I (.cons rfl (.cons ⟨t, rfl⟩ .nil)) q)) (fun v s' hv => ?_) fun _ _ e => e))
    obtain ⟨z', H2, I2, rz, qz⟩ := hv
    have hb := back_of rz (show EP X pins σ Q v s' from ⟨z', H2, I2, rz, qz⟩)
    cases v <;> first | exact hb.elim | exact wpAny_pure ⟨_, rfl, hb⟩
  have no : ∀ {R : Option Value → Shared → Prop}, R none s → wpAny (model X.prog X.w) X.A (tryCompare (.int i t) (cmpInfo cop).2.1 (.ref a)) R X.xe s := fun {R} hR => by
    unfold tryCompare
    refine wpAny_bind (wpAny_callSpecialIfBound?_slot (typeIs_int s i t) slot (PySem.call_meets slot (typeIs_int s i t) entry (args _ _) (meets i t a C dx) ⟨hat, by exact wpAny_pure hR⟩))
  rw [hop]
  unfold richCompare
  refine wpAny_holding (wpAny_bind (wpAny_cRoomFor hr.units0 ?_))
  show wpAny _ _ (do let ta ← typeOf (.int i t); _) _ _ _
  refine wpAny_bind ((PySem.W.Looks.of_pure rfl).here (wpAny_bind (J.type.here ?_)))
  have hne : (Value.type "int" != Value.ref C) = true := by
    have e : (Value.type "int" == Value.ref C) = false := Bool.eq_false_iff.mpr fun q => by cases beq_iff_eq.mp q
    unfold bne
    rw [e]
    rfl
  rw [if_pos hne]
  refine wpAny_bind ((PySem.W.looks_subIn Xk sub).here ?_)
  simp only [Bool.false_eq_true, if_false]
  refine wpAny_bind (no ?_)
  dsimp only
  rw [if_pos (show (!false) = true from rfl)]
  refine wpAny_bind (wpAny_mono one (fun r s' z => ?_) fun _ _ e => e)
  obtain ⟨v, rfl, hq⟩ := z
  exact wpAny_pure hq
/-- C.m(k = v), C's static method -/
def tSMethK (C : Addr) (n : Nat) (sp : Sp) (gV : List V → List V → List V) (E : XK) (ta : TE) (tk : TA) : TE := fun σ H Q => ta σ H fun x H1 => x = .ref C ∧ tk σ H1 fun zs H2 => zs.length = n ∧ sp (gV [] zs) H2 Q E
theorem pe_smethK {k : Nat} {p : Addr} {mc : Value} {fd : FuncData} {ps ks : List Str} {m : Str} {sp : Sp} {o : Expr} {kws : List Keyword} {ta : TE} {tk : TA} {g : List Value → List Value → List Value} {gV : List V → List V → List V} {apos pos : Pos} {pl : Sem Bool}
    (he : PE X o ta) (T : SMet X.K C mc m p f) (F : FnOk X.prog X.w X.K X.mg X.base CX k f fd ps sp) (hr : Room k X.A) (hb : KBn X.K fd ps 0 ks g gV) (hx : Passes CX X E) (hk : PK X kws tk)
    (ht : eval (.Call (.Attribute o m apos) [] kws pos) X.env = (do
      let ov ← eval o X.env
      standAt apos.atName
      let (f, first) ← holding [ov] (getMethod ov m pl)
      callWith pos f first (backTo pos (starEach [] X.env)) (backToKw pos (keywordEach kws X.env))) := by rfl)
    (hall : (backToKw pos (keywordEach kws X.env)).all (·.1.isSome) = true := by rfl) (hks : (backToKw pos (keywordEach kws X.env)).filterMap (·.1) = ks := by rfl)
    (hpl : ((backTo pos (starEach [] X.env)).any (·.1) || (backToKw pos (keywordEach kws X.env)).any (·.1.isNone)) = false := by rfl) :
    PE X (.Call (.Attribute o m apos) [] kws pos) (tSMethK C ks.length sp gV E ta tk) := by
  constructor
  intro pins s σ H Q I h
  refine PySem.W.methodCall_KW (pl := pl) (thn (he.run pins s σ H _ I h) ?_) ht
  rintro u s1 ⟨x, H1, I1, rx, rfl, q⟩
  obtain rfl : u = .ref C := rx
  refine smeth_get I1 T fun s2 I2 => ?_
  refine PySem.W.callWith_KW0 (first := []) (h₀ := X.base) I2.ok.mod.kin T.kp hall (thn (hk.run pos pins s2 σ H1 _ I2 q) ?_) hpl
  rintro ws s3 ⟨zs, H2, I3, rz, l2, q2⟩
  refine ⟨I3.kIn, ?_⟩
  rw [hks]
  exact run_fnN (us := []) (vs := []) F hr hb hx I3 .nil rz rfl l2 q2
/-- C(k = v, ..) -/
def tMakeK0 (C : Addr) (m : Nat) (sp : Sp) (gV : List V → List V → List V) (E : XK) (tk : TA) : TE := fun σ H Q => tk σ H fun zs H2 => zs.length = m ∧
  ∀ x dx, H2 x = none → H2 dx = none → dx ≠ x → sp (gV [.ref x] zs) (upd (upd H2 dx (.own x)) x (.ins C dx [])) (fun v H3 => v = .non ∧ Q (.ref x) H3) E
theorem pe_makeK0 {k : Nat} {fd : FuncData} {ps ks : List Str} {sp : Sp} {x : Str} {p pos : Pos} {kws : List Keyword} {tk : TA} {g : List Value → List Value → List Value} {gV : List V → List V → List V}
    (M : Mk X.K C f) (F : FnOk X.prog X.w X.K X.mg X.base CX k f fd ps sp) (hr : Room (k + 1) X.A) (hg : Gl X x) (hm : X.mg x = some (.ref C)) (hb : KBn X.K fd ps (0 + 1) ks g gV) (hx : Passes CX X E)
    (hkw : PK X kws tk) (hall : (backToKw pos (keywordEach kws X.env)).all (·.1.isSome) = true := by rfl) (hks : (backToKw pos (keywordEach kws X.env)).filterMap (·.1) = ks := by rfl)
    (hdb : (x == ("__debug__" : Str)) = false := by decide)
    (hpl : ((backTo pos (starEach [] X.env)).any (·.1) || (backToKw pos (keywordEach kws X.env)).any (·.1.isNone)) = false := by rfl) :
    PE X (.Call (.Name x p) [] kws pos) (tMakeK0 C ks.length sp gV E tk) := by
  refine ⟨fun pins s σ H Q I h => ?_⟩
  refine wpAny_Call_Name_kw (ld_glob I hg hm ?_ hdb)
  refine PySem.W.callWith_KW0 (first := []) (h₀ := X.base) I.ok.mod.kin M.kp hall (thn (hkw.run pos pins s σ H _ I h) fun ws s2 ⟨zs, H2, I2, rz, l2, q2⟩ => ⟨I2.kIn, ?_⟩) hpl
  rw [hks]
  exact run_makeN (us := []) (vs := []) M F hr hb hx I2 .nil rz rfl l2 q2
end
/-! ### texts of fractions -/
def txt (t b : Int) : Str := if b = 0 then "endless" else if b = 1 then Str.ofString (toString t) else Str.ofString (toString t) ++ "/" ++ Str.ofString (toString b)
theorem txt_len {t b : Int} (ht : Sm 1900 t) (hb : Sm 1900 b) : (txt t b).length ≤ 4000 := by
  have e1 := int_text_length_le (k := 1920) (by decide) (log_of ht)
  have e2 := int_text_length_le (k := 1920) (by decide) (log_of hb)
  unfold txt
  split
  · exact (by decide +kernel : (Str.ofString "endless").length ≤ 4000)
  · split
    · rw [PySem.ofString_length]
      omega
    · simp only [strLen_append, PySem.ofString_length]
      have l1 : "/".length = 1 := rfl
      omega
def reprR (t b : Int) : Str := "Ratio(" ++ txt t b ++ ")"
def spStr (C : Addr) (f : Int → Int → Str) : Sp := fun vs H Q _ => ∃ x t b, vs = [.ref x] ∧ RatAt C H x t b ∧ Sm 1900 t ∧ Sm 1900 b ∧ Q (.str (f t b)) H
end RR
namespace RR
open PySem PySem.Spec PyProof.Rows L2 LamX
/-! ### the class Ratio, asked anything -/
/-- whether a value is an int and no bool -/
def IsI (K : PySem.W.Frag) (H : Hp) (v : V) (c : Bool) : Prop := (∃ i, v = .int i ∧ c = true) ∨ (∃ k, v = .bl k ∧ c = false) ∨ (∃ t, TyX K H v t ∧ PySem.W.kitOne K t (.type "int") = some false ∧ c = false)
def spIsIntA (K : PySem.W.Frag) : Sp := fun vs H Q _ => ∃ v c, vs = [v] ∧ IsI K H v c ∧ Q (.bl c) H
/-- an error of the class at B with the field at -/
def BadAt (B : Addr) (k : Int) (H : Hp) (E : XK) : Prop := ∀ d H', Same H H' → H' d = some (.xd [(("at" : Str), V.int k)]) → E (.ref B) (some d) H'
def spInitA (K : PySem.W.Frag) (C B : Addr) : Sp := fun vs H Q E => ∃ x dx v w, vs = [.ref x, v, w] ∧ H x = some (.ins C dx []) ∧
  ((∃ t b, v = .int t ∧ w = .int b ∧ 0 < b ∧ Sm 5000 t ∧ Sm 5000 b ∧ Q .non (upd (upd H x (.ins C dx [("top", .int (lo t b))])) x (.ins C dx (rfs (lo t b) (lb t b))))) ∨
    (IsI K H v false ∧ BadAt B 0 H E) ∨ (∃ t, v = .int t ∧ (IsI K H w false ∨ ∃ b, w = .int b ∧ b < 1) ∧ BadAt B 1 H E))
def spOfA (K : PySem.W.Frag) (C B : Addr) : Sp := fun vs H Q E => ∃ v, vs = [v] ∧ ((∃ t b, NumV C H v t b ∧ Sm 5000 t ∧ NewR C H Q t b) ∨ (∃ t, TyX K H v t ∧ PySem.W.kitOne K t (.ref C) = some false ∧ IsI K H v false ∧ BadAt B 0 H E))
def spWhole (C : Addr) : Sp := fun vs H Q _ => ∃ x t b, vs = [.ref x] ∧ RatAt C H x t b ∧ Q (.bl (decide (b = 1))) H
def spCmp (C : Addr) (R : Int → Int → Bool) : Sp := fun vs H Q _ => ∃ x y t b u d, vs = [.ref x, y] ∧ RatAt C H x t b ∧ NumV C H y u d ∧ Sm 1000 t ∧ Sm 1000 b ∧ Sm 1000 u ∧ Sm 1000 d ∧ ∀ H', Same H H' → Q (.bl (R (t * d) (u * b))) H'
def spEqA (K : PySem.W.Frag) (C : Addr) : Sp := fun vs H Q _ => ∃ x t b y, vs = [.ref x, y] ∧ RatAt C H x t b ∧ ((∃ a u d, y = .ref a ∧ RatAt C H a u d ∧ Q (.bl (decide (t = u ∧ b = d))) H) ∨ (∃ t, TyX K H y t ∧ PySem.W.kitOne K t (.ref C) = some false ∧ Q (.bl false) H))
theorem IsI.same {K : PySem.W.Frag} {H H' : Hp} {v : V} {c : Bool} (ty : ∀ t, TyX K H v t → TyX K H' v t) (h : IsI K H v c) : IsI K H' v c := by
  rcases h with h | h | ⟨t, a, b, e⟩
  · exact .inl h
  · exact .inr (.inl h)
  · exact .inr (.inr ⟨t, ty _ a, b, e⟩)
theorem tyX_keep {K : PySem.W.Frag} {H H' : Hp} (k : ∀ b o, H b = some o → H' b = some o) {v : V} {t : Value} (h : TyX K H v t) : TyX K H' v t := by
  cases h with
  | base b =>
    cases b with
    | non => exact .base .non
    | bl x => exact .base (.bl x)
    | int i => exact .base (.int i)
    | str x => exact .base (.str x)
    | flt x => exact .base (.flt x)
    | lst e => exact .base (.lst (k _ _ e))
    | frz e => exact .base (.frz (k _ _ e))
    | tup e => exact .base (.tup (k _ _ e))
    | dK e => exact .base (.dK (k _ _ e))
    | dT e => exact .base (.dT (k _ _ e))
    | ins e cl ha hn htk hm => exact .base (.ins (k _ _ e) cl ha hn htk hm)
  | byt b => exact .byt b
  | set e => exact .set (k _ _ e)
  | kList e c => exact .kList e c
  | kTuple e c => exact .kTuple e c
  | kDict e c => exact .kDict e c
  | fTuple e => exact .fTuple (k _ _ e)
  | fDict e => exact .fDict (k _ _ e)
theorem BadAt.same {B : Addr} {k : Int} {H H' : Hp} {E : XK} (h : BadAt B k H E) (s : Same H H') : BadAt B k H' E := fun d G s2 e => h d G (s.trans s2) e
/-- Ratio(v, w), whatever they are -/
theorem mkX {K : PySem.W.Frag} {C B : Addr} {H : Hp} {Q : VK} {E : XK} {v w : V}
    (h : (∃ t b, v = .int t ∧ w = .int b ∧ 0 < b ∧ Sm 5000 t ∧ Sm 5000 b ∧ NewR C H Q (lo t b) (lb t b)) ∨ (IsI K H v false ∧ BadAt B 0 H E) ∨ (∃ t, v = .int t ∧ (IsI K H w false ∨ ∃ b, w = .int b ∧ b < 1) ∧ BadAt B 1 H E)) :
    ∀ x dx, H x = none → H dx = none → dx ≠ x → spInitA K C B [.ref x, v, w] (upd (upd H dx (.own x)) x (.ins C dx [])) (fun v H2 => v = .non ∧ Q (.ref x) H2) E := by
  intro x dx nx nd ne
  have sm : Same H (upd (upd H dx (.own x)) x (.ins C dx [])) := fun a o e => by
    rw [upd_ne (ne_of_none e nx), upd_ne (ne_of_none e nd)]
    exact e
  refine ⟨x, dx, v, w, rfl, upd_same, ?_⟩
  rcases h with ⟨t, b, rfl, rfl, b0, st, sb, k⟩ | ⟨i, k⟩ | ⟨t, e, i, k⟩
  · refine .inl ⟨t, b, rfl, rfl, b0, st, sb, rfl, k x _ (fun a o e => ?_) ⟨dx, upd_same⟩⟩
    have h1 : a ≠ x := ne_of_none e nx
    rw [upd_ne h1, upd_ne h1, upd_ne h1, upd_ne (ne_of_none e nd)]
    exact e
  · exact .inr (.inl ⟨i.same fun _ => tyX_keep sm, k.same sm⟩)
  · refine .inr (.inr ⟨t, e, ?_, k.same sm⟩)
    rcases i with i | i
    · exact .inl (i.same fun _ => tyX_keep sm)
    · exact .inr i
end RR
namespace RR
open PySem PySem.Spec PyProof.Rows L2 LamX
theorem empty_app (x : Str) : Str.empty ++ x = x := by
  cases x with
  | mk c =>
    show (⟨#[] ++ c⟩ : Str) = ⟨c⟩
    rw [Array.empty_append]
end RR
set_option maxHeartbeats 4000000
namespace RR
open PySem PySem.Spec PyProof.Rows L2 LamX
/-! ### texts that may be shown -/
def Plain (x : Str) : Prop := ∀ c ∈ x.cps.toList, c < 16 ^ 8
theorem plain_of (s : String) : Plain (Str.ofString s) := by
  intro c hc
  rw [signs_ofString] at hc
  obtain ⟨d, _, rfl⟩ := List.mem_map.mp hc
  have := d.valid
  have h2 : d.toNat < 1114112 := by
    rcases this with h | h
    · show d.val.toNat < _
      have : d.val.toNat < 55296 := h
      omega
    · exact h.2
  exact Nat.lt_trans h2 (by decide)
theorem plain_app {x y : Str} (h : Plain x) (k : Plain y) : Plain (x ++ y) := by
  intro c hc
  have e : (x ++ y).cps.toList = x.cps.toList ++ y.cps.toList := by
    show (x.cps ++ y.cps).toList = _
    simp
  rw [e] at hc
  rcases List.mem_append.mp hc with hc | hc
  · exact h c hc
  · exact k c hc
theorem plain_txt (t b : Int) : Plain (txt t b) := by
  unfold txt
  split
  · exact plain_of _
  · split
    · exact plain_of _
    · exact plain_app (plain_app (plain_of _) (plain_of _)) (plain_of _)
theorem plain_repr (t b : Int) : Plain (reprR t b) := plain_app (plain_app (plain_of _) (plain_txt t b)) (plain_of _)
/-- data that may be shown: at most n signs, at most m deep, no dict -/
structure Shows (n m : Nat) (d : PyData) : Prop where
  sh : d.showable = true
  nd : d.hasDict = false
  dp : d.depth ≤ m
  ln : d.shown.length ≤ n
theorem shows_bool (b : Bool) {n m : Nat} (h : 5 ≤ n) : Shows n m (.bool b) := ⟨rfl, rfl, Nat.zero_le _, Nat.le_trans (by cases b <;> decide) h⟩
theorem shows_str {x : Str} {n m : Nat} (p : Plain x) (h : 10 * x.length + 2 ≤ n) : Shows n m (.str x) := ⟨rfl, rfl, Nat.zero_le _, Nat.le_trans (PySem.StrLaws.reprText_len x p) h⟩
theorem shows_int {i : Int} {n m : Nat} (p : Sm 1900 i) (h : 1921 ≤ n) : Shows n m (.int i) := ⟨decide_eq_true (log_of p), rfl, Nat.zero_le _, by
  have := int_text_length_le (k := 1920) (by decide) (log_of p)
  show (Str.ofString (toString i)).length ≤ n
  rw [PySem.ofString_length]
  omega⟩
inductive ShowsAll (n m : Nat) : List PyData → Prop
  | nil : ShowsAll n m []
  | cons {d : PyData} {ds : List PyData} : Shows n m d → ShowsAll n m ds → ShowsAll n m (d :: ds)
theorem ShowsAll.sh {n m : Nat} : ∀ {ds : List PyData}, ShowsAll n m ds → PyData.showableAll ds = true ∧ PyData.hasDictAll ds = false ∧ PyData.depthAll ds ≤ m ∧ ((PyData.shownAll ds).map (·.length)).sum ≤ ds.length * n ∧ (PyData.shownAll ds).length = ds.length
  | _, .nil => ⟨rfl, rfl, Nat.zero_le _, Nat.zero_le _, rfl⟩
  | _, .cons (d := d) (ds := ds) h t => by
    obtain ⟨a, b, c, e, f⟩ := t.sh
    refine ⟨?_, ?_, ?_, ?_, ?_⟩
    · show (d.showable && PyData.showableAll ds) = true
      rw [h.sh, a]; rfl
    · show (d.hasDict || PyData.hasDictAll ds) = false
      rw [h.nd, b]; rfl
    · show max d.depth (PyData.depthAll ds) ≤ m
      have := h.dp
      omega
    · show d.shown.length + ((PyData.shownAll ds).map (·.length)).sum ≤ (ds.length + 1) * n
      have := h.ln
      rw [Nat.add_mul]
      omega
    · show (PyData.shownAll ds).length + 1 = ds.length + 1
      rw [f]
theorem shows_list {n m k l : Nat} {ds : List PyData} (h : ShowsAll n m ds) (hl : ds.length * n + 2 * ds.length + 3 ≤ k) (hm : m + 1 ≤ l) : Shows k l (.list ds) := by
  obtain ⟨a, b, c, e, f⟩ := h.sh
  refine ⟨a, b, ?_, ?_⟩
  · show PyData.depthAll ds + 1 ≤ l
    omega
  · show (listText (PyData.shownAll ds)).length ≤ k
    have := listText_len_le (PyData.shownAll ds)
    rw [f] at this
    omega
/-- repr(x), x data -/
def rReprS (K : PySem.W.Frag) (n : Nat) : List V → Hp → VK → Prop := fun xs H Q => ∃ a d, xs = [.ref a] ∧ Dp K H (.ref a) d ∧ Shows n 20 d ∧ Q (.str d.shown) H
theorem call_reprS {X : Cx} {n : Nat} (hn : n ≤ sizeLine) (hu : X.A.units + 64 < cLine) (fr : Free X.A) : CallR X (.builtin "repr") (rReprS X.K n) := by
  intro pins s σ H xs us Q I rv h
  obtain ⟨a, d, rfl, hd, hs, q⟩ := h
  exact call_repr hu fr pins s σ H _ us Q I rv ⟨a, d, rfl, hd, hs.sh, hs.nd, hs.dp, Nat.le_trans hs.ln hn, q⟩
section
variable {X : Cx} {CX : CXT} {C f : Addr} {n : Nat} {g : Sp} {E : XK}
/-- bool(x), x an instance -/
def rBoolO (C : Addr) (g : Sp) (E : XK) : List V → Hp → VK → Prop := fun xs H Q => (∃ a dx fs, xs = [.ref a] ∧ H a = some (.ins C dx fs)) ∧ g xs H (fun v H' => ∃ b, v = .bl b ∧ Q v H') E
theorem call_boolO (hs : PySem.W.findIn X.K (.ref C) "__bool__" = some (some (.ref f))) (hf : PySem.W.isFn X.K (.ref f) = true) (F : FnR X.prog X.w X.K X.mg X.base CX n f g) (hr : Room (n + 2) X.A) (hx : Passes CX X E) : CallR X (.type "bool") (rBoolO C g E) := by
  intro pins s σ H xs us Q I rv h
  obtain ⟨⟨a, dx, fs, rfl, ea⟩, q⟩ := h
  obtain ⟨u, rfl, ru⟩ := rv.one
  obtain rfl : u = .ref a := ru
  obtain ⟨od, J⟩ := inst_of I ea
  obtain ⟨m, fr⟩ := I.fr
  have hr2 : Room n X.A.in1.in1 := (show Room (n + 1) X.A.in1 from Room.in1 hr).in1
  refine callType_codes (T := "bool") (Bi := Builtin.«object.__init__») (Q₁ := fun r s₁ => ∃ y, r = .bool y ∧ EP X pins σ Q r s₁) PySem.F.called_bool (PySem.F.typeCall_bool_1 _) PySem.F.entry_object_init ?_ ?_
  · refine codeAny_of_tree ?_
    show wpAny _ X.A.in1.in1 (do checkBuiltinCall "bool.__new__" ⟨[.type "bool", .ref a], []⟩; again (.builtin "bool.__new__" ⟨[.type "bool", .ref a], []⟩)) _ _ s
    refine wpAny_bind (wpAny_of_eq (PySem.F.newCall_bool_1 _) (wpAny_pure ⟨plainId_quiet (by decide +kernel) _, codeAny_builtin PySem.F.entry_bool_new ?_⟩))
    rw [Around.under_plainId (by decide +kernel) _]
    unfold Builtin.«bool.__new__»
    refine wpAny_bind (wpAny_pure ?_)
    refine wpAny_bind (wpAny_of_eq PySem.F.conv_sub_bool ?_)
    refine wpAny_bind (wpAny_pure ?_)
    refine wpAny_bind (PySem.W.truthy_K fr I.ok.mod.kin J hs hf (wpAny_mono (run_in (us := [.ref a]) (vs := [.ref a]) F hr2 I.env0.in1.in1 hx I (.cons rfl .nil) q) (fun v s' z => ?_) fun _ _ z => z))
    obtain ⟨z', H2, I2, rz, b, rfl, qz⟩ := z
    obtain rfl : v = .bool b := rz
    exact wpAny_pure ⟨_, rfl, V.bl b, H2, I2, rfl, qz⟩
  · rintro obj s₁ ⟨y, rfl, hq⟩
    exact ⟨PySem.typeIs_bool _ _, PySem.F.args_object_init_2 _ _, object_init_meets PySem.F.called_bool.init.lookup PySem.F.called_bool.made (by decide) X.prog X.w X.A.in1 _ s₁ ⟨PySem.typeIs_bool _ _, rfl, hq⟩⟩
end
end RR
set_option maxHeartbeats 4000000
namespace RR
open PySem PySem.Spec PyProof.Rows L2 LamX
/-! ### what 'heard' makes of a lambda that may raise any of the three -/
def TTg (N B D : Addr) : (XK → Hp → VK → Prop) → Hp → VK → Prop := fun tl H Q => ∀ H0, Same H H0 → ∃ (E' : XK) (Q' : VK), tl E' H0 Q' ∧
  (∀ v H1, Q' v H1 → ∀ q H2, Same H1 H2 → H2 q = some (.lst [v]) → Q (.ref q) H2) ∧
  (∀ cls d H1, E' cls d H1 → (cls = .ref N ∧ d = none ∧ ∀ q H2, Same H1 H2 → H2 q = some (.tup [.str "none"]) → Q (.ref q) H2) ∨
    ∃ dd k, d = some dd ∧ H1 dd = some (.xd [(("at" : Str), V.int k)]) ∧ ((cls = .ref B ∧ ∀ q H2, Same H1 H2 → H2 q = some (.tup [.str "ratio", .int k]) → Q (.ref q) H2) ∨ (cls = .ref D ∧ ∀ q H2, Same H1 H2 → H2 q = some (.tup [.str "text", .int k]) → Q (.ref q) H2)))
/-- the wish that B comes at k -/
def wAt (B : Addr) (k : Int) (H0 : Hp) : XK := fun cls d H' => cls = .ref B ∧ ∃ dd, d = some dd ∧ Same H0 H' ∧ H' dd = some (.xd [(("at" : Str), V.int k)])
theorem wAt_bad {B : Addr} {k : Int} {H0 : Hp} : BadAt B k H0 (wAt B k H0) := fun d H' s e => ⟨rfl, d, rfl, s, e⟩
/-- a lambda that raises B at k -/
theorem heardAt {N B D : Addr} {k : Int} {tl : (XK → Hp → VK → Prop)} {H : Hp} {Q : VK} (h : ∀ H0, Same H H0 → tl (wAt B k H0) H0 (fun _ _ => False))
    (kk : ∀ q H2, Same H H2 → H2 q = some (.tup [.str "ratio", .int k]) → Q (.ref q) H2) : TTg N B D tl H Q :=
  fun H0 s0 => ⟨wAt B k H0, _, h H0 s0, fun _ _ z => z.elim, fun cls d H1 z => by
    obtain ⟨rfl, dd, rfl, s1, e⟩ := z
    exact .inr ⟨dd, k, rfl, e, .inl ⟨rfl, fun q H2 s e2 => kk q H2 (s0.trans (s1.trans s)) e2⟩⟩⟩
/-! ### signs -/
def OkP (t b : Int) : Prop := 0 < b ∨ (t = 1 ∧ b = 0)
theorem OkP.of {t b : Int} (h : LowE t b) : OkP t b := h.elim (fun h => .inl h.1) .inr
def sgn (t b u d : Int) : Int := if b = 0 ∨ d = 0 then (if b = 0 then 1 else 0) - (if d = 0 then 1 else 0) else (if t * d - u * b > 0 then 1 else 0) - (if t * d - u * b < 0 then 1 else 0)
theorem sgn_is {t b u d : Int} (h : OkP t b) (k : OkP u d) : (sgn t b u d < 0 ↔ t * d < u * b) ∧ (sgn t b u d = 0 ↔ t * d = u * b) := by
  unfold sgn
  rcases h with h | ⟨rfl, rfl⟩ <;> rcases k with k | ⟨rfl, rfl⟩
  · rw [if_neg (by omega)]
    generalize t * d = x
    generalize u * b = y
    constructor <;> (split <;> split <;> omega)
  · rw [if_pos (by omega), if_neg (by omega)]
    simp
    omega
  · rw [if_pos (by omega), if_neg (show ¬ d = 0 by omega)]
    simp
    omega
  · simp
/-! ### promises of the law's defs -/
def spText : Sp := fun vs H Q _ => ∃ p t b, vs = [.ref p] ∧ Pr H p t b ∧ Sm 1900 t ∧ Sm 1900 b ∧ Q (.str (txt t b)) H
def spFace (C : Addr) : Sp := fun vs H Q _ => ∃ a p t b, vs = [.ref a, .ref p] ∧ RatAt C H a t b ∧ Pr H p t b ∧ Sm 1000 t ∧ Sm 1000 b ∧ ∀ H', Same H H' → Q (.bl true) H'
def spSign : Sp := fun vs H Q _ => ∃ p1 p2 t b u d, vs = [.ref p1, .ref p2] ∧ Pr H p1 t b ∧ Pr H p2 u d ∧ Sm 1000 t ∧ Sm 1000 b ∧ Sm 1000 u ∧ Sm 1000 d ∧ Q (.int (sgn t b u d)) H
def spSigns (C : Addr) : Sp := fun vs H Q _ => ∃ a y s t b u d, vs = [.ref a, y, .int s] ∧ RatAt C H a t b ∧ NumV C H y u d ∧ Sm 1000 t ∧ Sm 1000 b ∧ Sm 1000 u ∧ Sm 1000 d ∧ ((s < 0 ↔ t * d < u * b) ∧ (s = 0 ↔ t * d = u * b)) ∧ ∀ H', Same H H' → Q (.bl true) H'
end RR
namespace RR
open PySem PySem.Spec PyProof.Rows L2 LamX
/-- y < x, x a Ratio, y one or an int -/
theorem signI {C : Addr} {H : Hp} {Q : VK} {E E' : XK} {R R' : Int → Int → Bool} (hR : ∀ i j, R' i j = R j i) {x : Addr} {y : V} {t b u d : Int} (n : NumV C H y u d) (r : RatAt C H x t b) (st : Sm 1000 t) (sb : Sm 1000 b) (su : Sm 1000 u) (sd : Sm 1000 d)
    (k : ∀ H', Same H H' → Q (.bl (R (u * b) (t * d))) H') : rOpL C (spCmp C R) E y (.ref x) H Q ∨ rOpR C (spCmp C R') E' y (.ref x) H Q := by
  obtain ⟨dx, e⟩ := r
  rcases n with ⟨a, rfl, dy, f⟩ | ⟨rfl, rfl⟩
  · exact .inl ⟨⟨a, dy, _, rfl, f⟩, .inr ⟨x, dx, _, rfl, e⟩, a, .ref x, u, d, t, b, rfl, ⟨dy, f⟩, .inl ⟨x, rfl, dx, e⟩, su, sd, st, sb, k⟩
  · refine .inr ⟨⟨u, rfl⟩, ⟨x, dx, _, rfl, e⟩, x, .int u, t, b, u, 1, rfl, ⟨dx, e⟩, .inr ⟨rfl, rfl⟩, st, sb, su, sd, fun H' s => ?_⟩
    rw [hR]
    exact k H' s
end RR
set_option maxHeartbeats 4000000
namespace RR
open PySem PySem.Spec PyProof.Rows L2 LamX
/-! ### values that are no whole numbers -/
/-- what v names stays -/
def KeepV (H H' : Hp) (v : V) : Prop := ∀ a o, v = .ref a → H a = some o → (∀ ps, o ≠ .tbl ps) → H' a = some o
theorem KeepV.same {H H' : Hp} {v : V} (s : Same H H') : KeepV H H' v := fun _ _ _ e _ => s _ _ e
theorem KeepV.ext {H H' : Hp} {v : V} (s : ExtN H H') : KeepV H H' v := fun _ _ _ e n => s _ _ e n
theorem KeepV.pen {H H' : Hp} {v : V} {p : Addr} (k : Keep p H H') (n : v ≠ .ref p) : KeepV H H' v := fun a o e h _ => k a o h fun z => n (by rw [e, z])
theorem tyX_keepV {K : PySem.W.Frag} {H H' : Hp} {v : V} {t : Value} (k : KeepV H H' v) (h : TyX K H v t) : TyX K H' v t := by
  have k := fun a o (e : v = .ref a) (h : H a = some o) n => k a o e h n
  cases h with
  | base b =>
    cases b with
    | non => exact .base .non
    | bl x => exact .base (.bl x)
    | int i => exact .base (.int i)
    | str x => exact .base (.str x)
    | flt x => exact .base (.flt x)
    | lst e => exact .base (.lst (k _ _ rfl e fun _ z => by cases z))
    | frz e => exact .base (.frz (k _ _ rfl e fun _ z => by cases z))
    | tup e => exact .base (.tup (k _ _ rfl e fun _ z => by cases z))
    | dK e => exact .base (.dK (k _ _ rfl e fun _ z => by cases z))
    | dT e => exact .base (.dT (k _ _ rfl e fun _ z => by cases z))
    | ins e cl ha hn htk hm => exact .base (.ins (k _ _ rfl e fun _ z => by cases z) cl ha hn htk hm)
  | byt b => exact .byt b
  | set e => exact .set (k _ _ rfl e fun _ z => by cases z)
  | kList e c => exact .kList e c
  | kTuple e c => exact .kTuple e c
  | kDict e c => exact .kDict e c
  | fTuple e => exact .fTuple (k _ _ rfl e fun _ z => by cases z)
  | fDict e => exact .fDict (k _ _ rfl e fun _ z => by cases z)
theorem IsI.keepV {K : PySem.W.Frag} {H H' : Hp} {v : V} {c : Bool} (k : KeepV H H' v) (h : IsI K H v c) : IsI K H' v c := h.same fun _ y => tyX_keepV k y
/-- what the class C says of a type of another kind -/
def OtherT (K : PySem.W.Frag) (C : Addr) (t : Value) : Prop := PySem.W.kitOne K t (.ref C) = some false ∧ PySem.W.notFirst K C t = true
structure Others (K : PySem.W.Frag) (C : Addr) : Prop where
  non : OtherT K C (.type "NoneType")
  bl : OtherT K C (.type "bool")
  int : OtherT K C (.type "int")
  str : OtherT K C (.type "str")
  lst : OtherT K C (.type "list")
  tup : OtherT K C (.type "tuple")
  dict : OtherT K C (.type "dict")
/-- a value of another kind -/
def NoR (K : PySem.W.Frag) (C : Addr) (H : Hp) (v : V) : Prop := ∃ t, TyX K H v t ∧ OtherT K C t
theorem NoR.keepV {K : PySem.W.Frag} {C : Addr} {H H' : Hp} {v : V} (k : KeepV H H' v) (h : NoR K C H v) : NoR K C H' v := h.elim fun t y => ⟨t, tyX_keepV k y.1, y.2⟩
theorem NoR.same {K : PySem.W.Frag} {C : Addr} {H H' : Hp} {v : V} (h : NoR K C H v) (s : Same H H') : NoR K C H' v := h.keepV (.same s)
/-- no whole number: a ratio, or of another kind -/
def OddV (K : PySem.W.Frag) (C : Addr) (H : Hp) (v : V) : Prop := IsI K H v false ∧ ((∃ a t b, v = .ref a ∧ RatAt C H a t b ∧ Sm 100 t ∧ Sm 100 b) ∨ NoR K C H v)
theorem OddV.keepV {K : PySem.W.Frag} {C : Addr} {H H' : Hp} {v : V} (k : KeepV H H' v) (h : OddV K C H v) : OddV K C H' v := by
  refine ⟨h.1.keepV k, ?_⟩
  rcases h.2 with ⟨a, t, b, e, ⟨dx, r⟩, st, sb⟩ | h
  · exact .inl ⟨a, t, b, e, ⟨dx, k _ _ e r fun _ z => by cases z⟩, st, sb⟩
  · exact .inr (h.keepV k)
theorem OddV.same {K : PySem.W.Frag} {C : Addr} {H H' : Hp} {v : V} (h : OddV K C H v) (s : Same H H') : OddV K C H' v := h.keepV (.same s)
theorem OddV.ext {K : PySem.W.Frag} {C : Addr} {H H' : Hp} {v : V} (h : OddV K C H v) (s : ExtN H H') : OddV K C H' v := h.keepV (.ext s)
section
variable {K : PySem.W.Frag} {C : Addr} {H : Hp}
theorem odd_non (o : Others K C) : OddV K C H .non := ⟨.inr (.inr ⟨_, .base .non, kit_ty (by decide +kernel), rfl⟩), .inr ⟨_, .base .non, o.non⟩⟩
theorem odd_bl (o : Others K C) (b : Bool) : OddV K C H (.bl b) := ⟨.inr (.inl ⟨b, rfl, rfl⟩), .inr ⟨_, .base (.bl b), o.bl⟩⟩
theorem odd_str (o : Others K C) (x : Str) : OddV K C H (.str x) := ⟨.inr (.inr ⟨_, .base (.str x), kit_ty (by decide +kernel), rfl⟩), .inr ⟨_, .base (.str x), o.str⟩⟩
theorem odd_lst (o : Others K C) {a : Addr} {xs : List V} (e : H a = some (.lst xs)) : OddV K C H (.ref a) := ⟨.inr (.inr ⟨_, .base (.lst e), kit_ty (by decide +kernel), rfl⟩), .inr ⟨_, .base (.lst e), o.lst⟩⟩
theorem odd_tup (o : Others K C) {a : Addr} {xs : List V} (e : H a = some (.tup xs)) : OddV K C H (.ref a) := ⟨.inr (.inr ⟨_, .base (.tup e), kit_ty (by decide +kernel), rfl⟩), .inr ⟨_, .base (.tup e), o.tup⟩⟩
theorem odd_dK (o : Others K C) {a : Addr} {kvs : List (Key × V)} (e : H a = some (.dK kvs)) : OddV K C H (.ref a) := ⟨.inr (.inr ⟨_, .base (.dK e), kit_ty (by decide +kernel), rfl⟩), .inr ⟨_, .base (.dK e), o.dict⟩⟩
theorem noR_non (o : Others K C) : NoR K C H .non := ⟨_, .base .non, o.non⟩
theorem noR_bl (o : Others K C) (b : Bool) : NoR K C H (.bl b) := ⟨_, .base (.bl b), o.bl⟩
theorem noR_int (o : Others K C) (i : Int) : NoR K C H (.int i) := ⟨_, .base (.int i), o.int⟩
theorem noR_str (o : Others K C) (x : Str) : NoR K C H (.str x) := ⟨_, .base (.str x), o.str⟩
theorem noR_lst (o : Others K C) {a : Addr} {xs : List V} (e : H a = some (.lst xs)) : NoR K C H (.ref a) := ⟨_, .base (.lst e), o.lst⟩
theorem noR_tup (o : Others K C) {a : Addr} {xs : List V} (e : H a = some (.tup xs)) : NoR K C H (.ref a) := ⟨_, .base (.tup e), o.tup⟩
theorem noR_dK (o : Others K C) {a : Addr} {kvs : List (Key × V)} (e : H a = some (.dK kvs)) : NoR K C H (.ref a) := ⟨_, .base (.dK e), o.dict⟩
end
/-- every one of some values -/
inductive AllV (R : V → Prop) : List V → Prop
  | nil : AllV R []
  | cons {x : V} {xs : List V} : R x → AllV R xs → AllV R (x :: xs)
theorem AllV.mem {R : V → Prop} : ∀ {xs : List V}, AllV R xs → ∀ x ∈ xs, R x
  | _, .nil, x, h => by cases h
  | _, .cons r t, x, h => by
    rcases List.mem_cons.mp h with rfl | h
    · exact r
    · exact t.mem x h
theorem AllV.imp {R S : V → Prop} (h : ∀ x, R x → S x) : ∀ {xs : List V}, AllV R xs → AllV S xs
  | _, .nil => .nil
  | _, .cons r t => .cons (h _ r) (t.imp h)
/-! ### fractions -/
theorem eq_lowE {t b u d : Int} (h : LowE t b) (k : LowE u d) : (t = u ∧ b = d) ↔ t * d = u * b := by
  constructor
  · rintro ⟨rfl, rfl⟩
    rfl
  · intro e
    rcases h with h | ⟨rfl, rfl⟩ <;> rcases k with k | ⟨rfl, rfl⟩
    · exact low_same h k e
    · have := h.1
      omega
    · have := k.1
      omega
    · exact ⟨rfl, rfl⟩
theorem low_times {t b k : Int} (h : Low t b) (k0 : 0 < k) : lo (t * k) (b * k) = t ∧ lb (t * k) (b * k) = b := by
  have e := lo_same (n := t * k) (m := b * k) (k := t) (l := b) (Int.mul_pos h.1 k0) h.1 (by grind)
  rw [low_lo h, low_lb h] at e
  exact e
/-! ### promises -/
def spCompared : Sp := fun vs H Q _ => ∃ p1 p2 t b u d, vs = [.ref p1, .ref p2] ∧ Pr H p1 t b ∧ Pr H p2 u d ∧ LowE t b ∧ LowE u d ∧ Sm 1000 t ∧ Sm 1000 b ∧ Sm 1000 u ∧ Sm 1000 d ∧ ∀ H', Same H H' → Q (.bl true) H'
def spOdd (K : PySem.W.Frag) (C : Addr) : Sp := fun vs H Q _ => ∃ p c ns a g, vs = [.ref p] ∧ PenAt H p c ns a g ∧ a ≤ 99000 ∧
  ∀ v a' g' H', H' p = some (pen c a' g') → Keep p H H' → OddV K C H' v → v ≠ .ref p → a ≤ a' → a' ≤ a + 1 → Q v H'
def spOther : Sp := fun vs H Q _ => ∃ p q c ns a g t b, vs = [.ref p, .ref q] ∧ PenAt H p c ns a g ∧ a ≤ 98000 ∧ Pr H q t b ∧ Low t b ∧ Sm 100 t ∧ Sm 100 b ∧
  ∀ r u d a' g' H', H' p = some (pen c a' g') → Keep p H H' → Pr H' r u d → LowE u d → Sm 110 u → Sm 110 d → a ≤ a' → a' ≤ a + 6 → Q (.ref r) H'
def spRefX (T : List (Addr × Str)) : Sp := fun vs H Q _ => ∃ p c ns a g u l, vs = [.ref p, .int u, .int l] ∧ PenAt H p c ns a g ∧ a ≤ 98000 ∧ 0 < l ∧ Sm 1000 u ∧ Sm 1000 l ∧ Tabs T H ∧
  ∀ a' g' H', PenAt H' p c ns a' g' → a' ≤ a + 3 → Tabs T H' → Q (.bl true) H'
/-! ### a list of what was heard: errors with a field -/
def AtIs (H : Hp) (v : V) (k : Int) : Prop := ∃ z, v = .ref z ∧ H z = some (.tup [.str "ratio", .int k])
inductive EachA (R : V → Int → Prop) : List V → List Int → Prop
  | nil : EachA R [] []
  | cons {x : V} {o : Int} {xs : List V} {os : List Int} : R x o → EachA R xs os → EachA R (x :: xs) (o :: os)
theorem EachA.imp {R S : V → Int → Prop} (h : ∀ x o, R x o → S x o) : ∀ {xs : List V} {os : List Int}, EachA R xs os → EachA S xs os
  | _, _, .nil => .nil
  | _, _, .cons r e => .cons (h _ _ r) (e.imp h)
theorem EachA.app {R : V → Int → Prop} {ys : List V} {ps : List Int} (h : EachA R ys ps) : ∀ {xs : List V} {os : List Int}, EachA R xs os → EachA R (xs ++ ys) (os ++ ps)
  | _, _, .nil => h
  | _, _, .cons r e => .cons r (EachA.app h e)
theorem EachA.len {R : V → Int → Prop} : ∀ {xs : List V} {os : List Int}, EachA R xs os → xs.length = os.length
  | _, _, .nil => rfl
  | _, _, .cons _ e => congrArg Nat.succ e.len
def atD (k : Int) : PyData := .tuple [.str "ratio", .int k]
theorem AtIs.dp {K : PySem.W.Frag} {H : Hp} {v : V} {k : Int} (h : AtIs H v k) : Dp K H v (atD k) := by
  obtain ⟨z, e, h⟩ := h
  subst e
  exact .tup (SqT.of h) (.cons (.str _) (.cons (.int _) .nil))
theorem EachA.dp {K : PySem.W.Frag} {H : Hp} : ∀ {xs : List V} {os : List Int}, EachA (AtIs H) xs os → DpAll K H xs (os.map atD)
  | _, _, .nil => .nil
  | _, _, .cons r e => .cons r.dp e.dp
theorem AtIs.ext {H H' : Hp} {v : V} {k : Int} (h : AtIs H v k) (s : ExtN H H') : AtIs H' v k := h.elim fun z h => ⟨z, h.1, s _ _ h.2 fun _ y => by cases y⟩
theorem AtIs.same {H H' : Hp} {v : V} {k : Int} (h : AtIs H v k) (s : Same H H') : AtIs H' v k := h.elim fun z h => ⟨z, h.1, s _ _ h.2⟩
theorem AtIs.put {H : Hp} {v : V} {k : Int} {L : Addr} {xs ys : List V} (h : AtIs H v k) (hL : H L = some (.lst xs)) : AtIs (upd H L (.lst ys)) v k :=
  h.elim fun z h => ⟨z, h.1, (upd_ne (ne_of h.2 hL fun y => by cases y)).trans h.2⟩
/-- under way: the list L of what was heard so far -/
structure HSt (T : List (Addr × Str)) (H0 H : Hp) (L : Addr) (os : List Int) : Prop where
  ex : ExtN H0 H
  l0 : ∀ u, H0 L = some u → ∃ ps, u = .tbl ps
  ls : ∃ xs, H L = some (.lst xs) ∧ EachA (AtIs H) xs os
  tb : Tabs T H
theorem HSt.step {T : List (Addr × Str)} {H0 H H2 : Hp} {L q1 : Addr} {os : List Int} {k : Int} (S : HSt T H0 H L os) (e : ExtN H H2) (t2 : Tabs T H2) (z : AtIs H2 (.ref q1) k) :
    ∃ xs, H2 L = some (.lst xs) ∧ xs.length = os.length ∧ HSt T H0 (upd H2 L (.lst (xs ++ [.ref q1]))) L (os ++ [k]) := by
  obtain ⟨xs, h1, h2⟩ := S.ls
  have hL : H2 L = some (.lst xs) := e _ _ h1 fun _ y => by cases y
  refine ⟨xs, hL, h2.len, ?_, S.l0, ⟨_, upd_same, ?_⟩, tabs_mut t2 hL⟩
  · intro c u ec no
    rw [upd_ne fun y => by
      subst y
      obtain ⟨ps, y⟩ := S.l0 _ ec
      exact no _ y]
    exact e _ _ (S.ex _ _ ec no) no
  · exact EachA.app (.cons (z.put hL) .nil) (h2.imp fun v o r => (r.ext e).put hL)
theorem HSt.start {T : List (Addr × Str)} {H0 H : Hp} {L q1 : Addr} {k : Int} (e : ExtN H0 H) (tb : Tabs T H) (nL : H L = none) (z : AtIs H (.ref q1) k) : HSt T H0 (upd H L (.lst [.ref q1])) L [k] := by
  refine ⟨extN_same e (Same.new nL), fun u h => ?_, ⟨_, upd_same, .cons (z.same (Same.new nL)) .nil⟩, Tabs.same tb (Same.new nL)⟩
  cases u with
  | tbl ps => exact ⟨ps, rfl⟩
  | _ =>
    have := e _ _ h fun _ y => by cases y
    rw [nL] at this
    cases this
end RR
set_option maxHeartbeats 4000000
namespace RR
open PySem PySem.Spec PyProof.Rows L2
/-! ### errors of own classes as values -/
/-- a new error of C with the field f -/
def tMkV (f : Str) (C : Addr) (ta : TA) : TE := fun σ H Q => ta σ H fun vs H1 => ∃ v, vs = [v] ∧ ∀ a dd, H1 dd = none → H1 a = none → dd ≠ a → Q (.ref a) (upd (upd H1 dd (.xd [(f, v)])) a (HeldX (.ref C) (some dd) a))
theorem made_val {X : Cx} {pins : List (Addr × Obj)} {σ : L2.St} {H1 : Hp} {hp h' : Heap} {g : Array GenState} {dr : Drawn} {tk tk' : Nat} {os : OsState} {Q : VK} {e d C : Addr} {fs : List (Str × V)} {m : Str → Option Value} (I1 : Inv X pins σ H1 ⟨hp, g, dr, tk, os⟩)
    (keep : ∀ b o, hp.get? b = some o → h'.get? b = some o) (new : hp.objs.size ≤ e) (obj : ∃ oe vs, h'.get? e = some oe ∧ oe.cls = .ref C ∧ oe.dict = some d ∧ oe.data = .fields vs ∧ vs[1]? = some .none) (dbig : hp.objs.size ≤ d) (dne : d ≠ e) (ns : h'.Ns1 d m)
    (rel : ∀ f, RelO (List.lookup f fs) (m f)) (q : H1 d = none → H1 e = none → d ≠ e → Q (.ref e) (upd (upd H1 d (.xd fs)) e (HeldX (.ref C) (some d) e))) : EP X pins σ Q (.ref e) ⟨h', g, dr, tk', os⟩ := by
  obtain ⟨oe, fv, hoe, hc, hd, hdat, h1⟩ := obj
  obtain ⟨G', g1, g2⟩ := restrict h' fun b => decide (b ≠ e)
  have gk : ∀ b, b ≠ e → G'.get? b = h'.get? b := fun b hb => g1 b (decide_eq_true hb)
  have ge : G'.get? e = none := g2 e (by simp)
  have old : ∀ b o, hp.get? b = some o → G'.get? b = some o := fun b o q => (gk b (Nat.ne_of_lt (Nat.lt_of_lt_of_le (Heap.lt_size q) new))).trans (keep b o q)
  have ob : ObjOk X.prog X.w (upd H1 d (.xd fs)) G' d (.xd fs) := ⟨_, ns.at (fun o q => (gk d dne).trans q), rel⟩
  have J : Inv X pins σ (upd H1 d (.xd fs)) ⟨G', g, dr, tk', os⟩ := I1.laid (t' := tk') old dbig ob
  have nd := I1.hok.fresh dbig
  have ne := I1.hok.fresh new
  have ne2 : upd H1 d (.xd fs) e = none := (upd_ne dne.symm).trans ne
  have up : ∀ b o, G'.get? b = some o → h'.get? b = some o := fun b o z => by
    by_cases hb : b = e
    · rw [hb, ge] at z
      cases z
    · exact (gk b hb).symm.trans z
  have J2 : Inv X pins σ (upd (upd H1 d (.xd fs)) e (HeldX (.ref C) (some d) e)) ⟨h', g, dr, tk', os⟩ :=
    J.laidN (t' := tk') up ge ne2 ⟨⟨oe, hoe, ⟨hc, hd⟩, fv, hdat⟩, ⟨oe, hoe⟩, fun _ _ ⟨u, z1, z2⟩ k => ⟨u, k u z1, z2⟩⟩
  exact ⟨.ref e, _, J2, rfl, q nd ne dne⟩
end RR
namespace PySem
namespace LowN
open PySem.W PySem.Calls PyProof.Rows PySem.HandSPX
/-! ### the text of __init__ -/
def iA (p1 p2 : Pos) : Arguments := { posonlyargs := [], args := [{ arg := "self", annotation := none, pos := p1 }, { arg := "name", annotation := none, pos := p2 }], vararg := none, kwonlyargs := [], kw_defaults := [], kwarg := none, defaults := [] }
def iB (q1 q2 q3 q4 : Pos) : List Stmt := [.Assign [.Attribute (.Name "self" q1) "name" q2] (.Name "name" q3) q4]
def iS : Scope := { kind := .function, names := [(PySem.Str.ofString "self", .local), (PySem.Str.ofString "name", .local)], isGenerator := false, isCoroutine := false, more := [] }
/-- what the written part says of Low, at C, and of its __init__, at fI -/
structure LowTxt (K : Frag) (mg : Str → Option Value) (cn qn : Str) (C fI : Addr) : Prop where
  gC : mg cn = some (.ref C)
  cls : ∃ nm q N bs bm sn sub ab col dd k0 k1 k2 k3 k5, K.lookup C = some (excClassObj nm q C N bs bm true sn sub ab col dd k0 k1 k2 k3 k5 "ValueError.__new__") ∧ refsVE bm = true
  sa : findIn K (.ref C) "__setattr__" = some (some (.builtin "object.__setattr__"))
  ga : findIn K (.ref C) "__getattribute__" = some (some (.builtin "BaseException.__getattribute__"))
  gg : findIn K (.ref C) "__getattr__" = some none
  noN : findIn K (.ref C) "name" = some none
  iC : findIn K (.ref C) "__init__" = some (some (.ref fI))
  tC : typeIn K (.ref fI) = some (.type "function")
  kC : keepIn K (.ref C) = true
  exC : subIn K (.ref C) (.type "BaseException") = some true
  tyC : typeIn K (.ref C) = some (.type "type")
  hdC : hasDictIn K C = true
  te : exmOne K (.ref C) (.ref C) = some true
  fn : ∃ (oc : Value) (od : Option Addr) (doc pm : Value) (an : Option Addr) (cdv ct : Value) (osl : Array (Option Value)) (p1 p2 q1 q2 q3 q4 : Pos),
    K.lookup fI = some ⟨oc, od, .func (fnOf "__init__" qn (iA p1 p2) (iB q1 q2 q3 q4) iS .none .none doc pm an cdv ct), osl⟩ ∧ codeIn K cdv qn = true
theorem one_size (v : Value) : [v].length ≤ sizeLine := by
  rw [sizeLine_eq]
  exact (by decide : 1 ≤ 16777216)
theorem kept_but {K : Frag} {h h' : Heap} {x : Addr} (X : K.In h) (hx : K.lookup x = none) (k : ∀ b o, b ≠ x → h.get? b = some o → h'.get? b = some o) : K.In h' := fun a o e =>
  k a o (fun z => by rw [z, hx] at e; cases e) (X a o e)
theorem ldC {M : Model} {s : Shared} {name : Str} {scope : Scope} {L a : Addr} {cd : Value} {m : Str → Option Value} {x : Str} {pos : Pos} {v : Value} {Q : Value → Shared → Prop} {A : Around} {E : Value → Shared → Prop} (hn : s.heap.Ns L m) (hv : m x = some v) (h : Q v s)
    (hk : scope.kind = .function := by rfl) (hl : (envOfC name scope L a cd).kindOf x = some .local := by rfl) (hd : (x == ("__debug__" : Str)) = false := by decide) :
    wpAny M A (eval (.Name x pos) (envOfC name scope L a cd)) Q E s := wpAny_Name (wpAny_loadName_local hk hl hn hv h) hd
/-- what __init__ leaves of a fresh exception at x -/
structure InitEnd (h h' : Heap) (x C dx t1 : Addr) (v : Value) : Prop where
  keep : ∀ b o, b ≠ x → h.get? b = some o → h'.get? b = some o
  obj : h'.get? x = some { cls := .ref C, dict := some dx, data := .fields #[.ref t1, .none, .none, .none, .bool false, .none] }
  dbig : h.objs.size ≤ dx
  dne : dx ≠ x
  ns : h'.Ns1 dx (fun y => if y = "name" then some v else none)
/-- a made Low -/
structure OwnMade (h h' : Heap) (e C d : Addr) (v : Value) : Prop where
  keep : ∀ b o, h.get? b = some o → h'.get? b = some o
  new : h.objs.size ≤ e
  obj : ∃ oe vs, h'.get? e = some oe ∧ oe.cls = .ref C ∧ oe.dict = some d ∧ oe.data = .fields vs ∧ vs[1]? = some .none
  dbig : h.objs.size ≤ d
  dne : d ≠ e
  ns : h'.Ns1 d (fun y => if y = "name" then some v else none)
section
variable {prog : Program} {w : World} {A : Around} {E : Value → Shared → Prop} {R : Result → Shared → Prop} {s : Shared} {K : Frag} {mg : Str → Option Value} {C fI : Addr} {cn qn : Str}
theorem low_init (T : LowTxt K mg cn qn C fI) {x t0 : Addr} {v : Value} (X : K.In s.heap) (hlim : s.heap.NoLimit) (hx : s.heap.get? x = some (excO C t0)) (hnx : K.lookup x = none) (hroom : A.depth < recursionLimit)
    (hq : ∀ h' tk dx, InitEnd s.heap h' x C dx t0 v → R (.ok (.ret .none)) { s with heap := h', toks := tk }) :
    codeAny (model prog w) A (.call (.ref fI) ⟨[.ref x, v], []⟩) R s := by
  obtain ⟨oc, od, doc, pm, an, cdv, ct, osl, p1, p2, q1, q2, q3, q4, ho, hcd⟩ := T.fn
  obtain ⟨nm, q, N, bs, bm, sn, sub, ab, col, dd, k0, k1, k2, k3, k5, hC, hbm⟩ := T.cls
  have hcl : clsIn K C = some { name := nm, bases := bs, mro := .ref C :: bm, ns := N, qualname := q, hasDict := true, slotNames := sn, subclasses := sub, abstract := ab, collection := col, hasDel := false } := by unfold clsIn; rw [hC] <;> rfl
  refine Att.call_fn (binds := [("self", .ref x), ("name", v)]) X hlim ho hcd hroom (BindsTo.of_eq (by first | rfl | with_unfolding_all rfl)) (by first | rfl | decide | with_unfolding_all rfl) (fun s₁ IC => ?_) rfl rfl rfl
  obtain ⟨h₁, tk₁, rfl⟩ := IC.toInCall.same
  have k : ∀ b o, s.heap.get? b = some o → h₁.get? b = some o := IC.toInCall.keep
  have hn := IC.toInCall.ns
  have hxL : s.heap.objs.size ≠ x := Nat.ne_of_gt (Heap.lt_size hx)
  have X₁ : K.In h₁ := X.keeps k
  have hx₁ := k _ _ hx
  -- self.by = by
  show wpAny _ _ (execs _ _) _ _ _
  refine wpAny_execs_cons (plainObj_wpAny_Assign_Attribute ?_)
  refine ldC (v := v) hn (by first | rfl | with_unfolding_all rfl | kernel_rfl) (ldC (v := .ref x) hn (by first | rfl | with_unfolding_all rfl | kernel_rfl) ?_)
  refine set_plain X₁ (ox := excO C t0) (od := none) ⟨hx₁, rfl, rfl, trivial⟩ T.sa ?_
  refine exc_osa X₁ hx₁ hcl (show refsVE (.ref C :: bm) = true from hbm) rfl T.noN (fun h₃ tk₃ dx k₃ dn dne hx₃ hn₃ => ?_)
  show wpAny _ _ (execs _ _) _ _ _
  have z : s.heap.objs.size < h₁.objs.size := hn.lt
  exact wpAny_execs_nil (hq h₃ tk₃ dx ⟨fun b o hb e => k₃ b o hb (k b o e), hx₃, Nat.le_of_lt (Nat.lt_of_lt_of_le z dn), dne, hn₃⟩)
theorem low_made (T : LowTxt K mg cn qn C fI) {v : Value} (X : K.In s.heap) (hlim : s.heap.NoLimit) (hroom : A.depth + 1 < recursionLimit)
    (hq : ∀ h' tk e d, OwnMade s.heap h' e C d v → R (.ok (.ret (.ref e))) { s with heap := h', toks := tk }) :
    codeAny (model prog w) A (.call (.ref C) ⟨[v], []⟩) R s := by
  obtain ⟨nm, q, N, bs, bm, sn, sub, ab, col, dd, k0, k1, k2, k3, k5, hC, hbm⟩ := T.cls
  obtain ⟨hp, g, dr, tk, os⟩ := s
  have k : ∀ b o, hp.get? b = some o → ((hp.push (kdv_tup [v])).push (excO C hp.objs.size)).get? b = some o := fun b o e => Heap.get?_push_of_some _ (Heap.get?_push_of_some _ e)
  have hget : ((hp.push (kdv_tup [v])).push (excO C hp.objs.size)).get? (hp.objs.size + 1) = some (excO C hp.objs.size) := by heap_get
  have hnx : K.lookup (hp.objs.size + 1) = none := by
    cases e : K.lookup (hp.objs.size + 1) with
    | none => rfl
    | some o =>
      have z : hp.get? (hp.objs.size + 1) = some o := X _ _ e
      exact absurd (Nat.lt_of_succ_lt (Heap.lt_size z)) (Nat.lt_irrefl _)
  refine call_own F.excBase_ValueError (fun X => refsVE_contains X bm hbm) (X _ _ hC) (looks_findIn X T.iC) (fun self => bind_fn X self T.tC) (one_size v) ?_
  refine low_init (s := ⟨(hp.push (kdv_tup [v])).push (excO C hp.objs.size), g, dr, tk, os⟩) T (X.keeps k) (hlim.keeps k) hget hnx ?_ fun h' tk' dx ⟨k', hx, dn, dne, hns⟩ => ?_
  · show A.depth + 1 < recursionLimit
    exact hroom
  · have old : ∀ b o, hp.get? b = some o → h'.get? b = some o := fun b o e => k' b o (Nat.ne_of_lt (Nat.lt_succ_of_lt (Heap.lt_size e))) (k b o e)
    have z : hp.objs.size + 1 + 1 ≤ dx := by
      first
        | (simpa only [Heap.size_push] using dn)
        | exact dn
        | (have q := dn; rw [Heap.size_push, Heap.size_push] at q; exact q)
    exact ⟨rfl, hq h' tk' (hp.objs.size + 1) dx ⟨old, Nat.le_succ _, ⟨_, _, hx, rfl, rfl, rfl, rfl⟩, Nat.le_trans (Nat.le_trans (Nat.le_succ _) (Nat.le_succ _)) z, dne, hns⟩⟩
end
end LowN
end PySem
namespace L2
open PySem PySem.Spec PyProof.Rows
theorem relO_lowN {v : V} {v' : Value} (r : RelV v v') (f : Str) : RelO (List.lookup f [(("name" : Str), v)]) (if f = "name" then some v' else none) := by
  by_cases hw : f = "name"
  · subst hw
    rw [if_pos rfl]
    have q : List.lookup ("name" : Str) [(("name" : Str), v)] = some v := by simp [List.lookup]
    rw [q]
    exact r
  · rw [if_neg hw]
    have qw : (f == ("name" : Str)) = false := by simpa using hw
    have q2 : List.lookup f [(("name" : Str), v)] = none := by simp [List.lookup, qw]
    rw [q2]
    trivial
section
variable {X : Cx} {C fI : Addr} {cn qn : Str}
/-- Low(e) -/
def tMkLowN (C : Addr) (ta : TA) : St → Hp → XK → Prop := fun σ H Q => ta σ H fun vs H1 => ∃ v, vs = [v] ∧ ∀ d, H1 d = none → Q (.ref C) (some d) (upd H1 d (.xd [(("name" : Str), v)]))
theorem pmk_lowN {a : Expr} {ta : TA} {p pos : Pos} {k : Nat} (T : PySem.LowN.LowTxt X.K X.mg cn qn C fI) (hr : Room k X.A) (ha : PA X [a] ta) (hg : Gl X cn) (hdb : (cn == ("__debug__" : Str)) = false := by decide)
    (he : starEach (a :: []) X.env = (false, eval a X.env) :: starEach [] X.env := by rfl) (hpl : (backTo pos (starEach [] X.env)).any (·.1) = false := by rfl) :
    PMk X (.Call (.Name cn p) [a] [] pos) (tMkLowN C ta) := by
  intro pins s σ H Q I h
  refine wpAny_Call_Name_kw (ld_glob I hg T.gC ?_ hdb)
  refine PySem.W.callWith_K (h₀ := X.base) I.ok.mod.kin T.kC (thn (ha.run pos pins s σ H _ I h) fun us s1 hh => ?_) he hpl
  obtain ⟨vs, H1, I1, r1, v, ev, q1⟩ := hh
  subst ev
  refine ⟨I1.kIn, ?_⟩
  cases r1 with
  | cons rv rn =>
    rename_i v' us'
    cases rn
    show wpAny _ _ (call (.ref C) [v']) _ _ _
    have hlim := I1.nolimit
    obtain ⟨hp, g, dr, tk, os⟩ := s1
    refine wpAny_call (PySem.LowN.low_made T I1.kIn hlim (by have := hr.dp; omega) fun h' tk' e d M => ?_)
    show MkP X pins σ Q (.ref e) ⟨h', g, dr, tk', os⟩
    obtain ⟨oe, fv, hoe, hc, hd, hdat, h1⟩ := M.obj
    have hns := M.ns
    obtain ⟨G', g1, g2⟩ := restrict h' fun b => decide (b ≠ e)
    have gk : ∀ b, b ≠ e → G'.get? b = h'.get? b := fun b hb => g1 b (decide_eq_true hb)
    have ge : G'.get? e = none := g2 e (by simp)
    have old : ∀ b o, hp.get? b = some o → G'.get? b = some o := fun b o q => (gk b (Nat.ne_of_lt (Nat.lt_of_lt_of_le (Heap.lt_size q) M.new))).trans (M.keep b o q)
    have ob : ObjOk X.prog X.w (upd H1 d (.xd [(("name" : Str), v)])) G' d (.xd [(("name" : Str), v)]) :=
      ⟨_, hns.at (fun o q => (gk d M.dne).trans q), fun f => relO_lowN rv f⟩
    have J : Inv X pins σ (upd H1 d (.xd [(("name" : Str), v)])) ⟨G', g, dr, tk', os⟩ := I1.laid (t' := tk') old M.dbig ob
    refine ⟨e, oe, fv, ⟨G', g, dr, tk', os⟩, _, .ref C, some d, rfl, J, fun b o q => ?_, ge, hoe, ⟨hc, hd⟩, hdat, h1, ?_, rfl, I1.bare, raises_own T.exC T.tyC, q1 d (I1.hok.fresh M.dbig)⟩
    · by_cases hb : b = e
      · have q' : G'.get? b = some o := q
        rw [hb, ge] at q'; cases q'
      · exact (gk b hb).symm.trans q
    · rw [upd_ne (Ne.symm M.dne)]
      exact I1.hok.fresh M.new
/-- raise Low(e) -/
def tRaiseLowN (C : Addr) (W : WX) (ta : TA) : TS := fun _ σ H => tMkLowN C ta σ H fun cls d H' => W cls d σ H'
theorem ps_raiseLowN {a : Expr} {ta : TA} {W : WX} {p pos pos2 : Pos} {k : Nat} (hc : X.calm = true) (T : PySem.LowN.LowTxt X.K X.mg cn qn C fI) (hr : Room k X.A) (tk : Takes X W) (ha : PA X [a] ta) (hg : Gl X cn) (hdb : (cn == ("__debug__" : Str)) = false := by decide)
    (he : starEach (a :: []) X.env = (false, eval a X.env) :: starEach [] X.env := by rfl) (hpl : (backTo pos (starEach [] X.env)).any (·.1) = false := by rfl) :
    PS X (.Raise (some (.Call (.Name cn p) [a] [] pos)) none pos2) (tRaiseLowN C W ta) := ps_raise hc tk (pmk_lowN T hr ha hg hdb he hpl)
/-- low.by, low the exception that the suite holds (at a; its class cls, its dict d) -/
def tByLowN (C : Addr) (a : Addr) (cls : Value) (d : Option Addr) (te : TE) : TE := fun σ H Q => te σ H fun x H1 => x = .ref a ∧ cls = .ref C ∧ ∃ (dd : Addr) (v : V), d = some dd ∧ H1 dd = some (.xd [(("name" : Str), v)]) ∧ Q v H1
theorem pe_byLowN {a : Addr} {oe : Obj} {cls : Value} {d : Option Addr} {pn : List (Addr × Obj)} {e : Expr} {te : TE} {pos : Pos} (T : PySem.LowN.LowTxt X.K X.mg cn qn C fI) (hz : Zc cls d oe) (hf : ∃ vs, oe.data = .fields vs) (he : PE (X.suite a ((a, oe) :: pn)) e te)
    (hb : attributeBase e "name" X.env (eval e X.env) = eval e X.env := by rfl) :
    PE (X.suite a ((a, oe) :: pn)) (.Attribute e "name" pos) (tByLowN C a cls d te) := by
  refine ⟨fun pins s σ H Q I h => ?_⟩
  refine attr_of hb (thn (he.run pins s σ H _ I h) fun u s1 hh => ?_)
  obtain ⟨x, H1, I1, rx, ex, ec, dd, v, ed, ea, q⟩ := hh
  subst ex
  obtain rfl : u = Value.ref a := rx
  subst ec
  subst ed
  obtain ⟨ha, _⟩ := I1.pin (a, oe) (List.mem_append_left _ List.mem_cons_self)
  obtain ⟨vs, hd⟩ := hf
  have hx : ObjOk X.prog X.w H1 s1.heap dd (.xd [(("name" : Str), v)]) := I1.hok dd _ ea
  obtain ⟨mA, hns, hr⟩ := hx
  obtain ⟨od, ho, hl⟩ := lookIn_ns hns
  have l : List.lookup ("name" : Str) [(("name" : Str), v)] = some v := by simp [List.lookup]
  obtain ⟨u, hu, ru⟩ := RelO.some_of (v := v) (o := mA "name") (by rw [← l]; exact hr "name")
  have J : PySem.W.InstAt s1.heap a oe C (some od) := ⟨ha, hz.1, by unfold PySem.W.notCls; rw [hd] <;> rfl, by rw [hz.2]; exact ho⟩
  exact HandSPX.exc_get I1.kIn J T.ga T.gg T.exC (PySem.W.findObj_own T.hdC T.noN rfl (by rw [hl, hu])) (handed_of ru) ⟨v, H1, I1.tok _, ru, q⟩
end
end L2

namespace PySem
namespace LowM
open PySem.W PySem.Calls PyProof.Rows PySem.HandSPX
/-! ### the text of __init__ -/
def iA (p1 p2 : Pos) : Arguments := { posonlyargs := [], args := [{ arg := "self", annotation := none, pos := p1 }, { arg := "most", annotation := none, pos := p2 }], vararg := none, kwonlyargs := [], kw_defaults := [], kwarg := none, defaults := [] }
def iB (q1 q2 q3 q4 : Pos) : List Stmt := [.Assign [.Attribute (.Name "self" q1) "most" q2] (.Name "most" q3) q4]
def iS : Scope := { kind := .function, names := [(PySem.Str.ofString "self", .local), (PySem.Str.ofString "most", .local)], isGenerator := false, isCoroutine := false, more := [] }
/-- what the written part says of Low, at C, and of its __init__, at fI -/
structure LowTxt (K : Frag) (mg : Str → Option Value) (cn qn : Str) (C fI : Addr) : Prop where
  gC : mg cn = some (.ref C)
  cls : ∃ nm q N bs bm sn sub ab col dd k0 k1 k2 k3 k5, K.lookup C = some (excClassObj nm q C N bs bm true sn sub ab col dd k0 k1 k2 k3 k5 "ValueError.__new__") ∧ refsVE bm = true
  sa : findIn K (.ref C) "__setattr__" = some (some (.builtin "object.__setattr__"))
  ga : findIn K (.ref C) "__getattribute__" = some (some (.builtin "BaseException.__getattribute__"))
  gg : findIn K (.ref C) "__getattr__" = some none
  noN : findIn K (.ref C) "most" = some none
  iC : findIn K (.ref C) "__init__" = some (some (.ref fI))
  tC : typeIn K (.ref fI) = some (.type "function")
  kC : keepIn K (.ref C) = true
  exC : subIn K (.ref C) (.type "BaseException") = some true
  tyC : typeIn K (.ref C) = some (.type "type")
  hdC : hasDictIn K C = true
  te : exmOne K (.ref C) (.ref C) = some true
  fn : ∃ (oc : Value) (od : Option Addr) (doc pm : Value) (an : Option Addr) (cdv ct : Value) (osl : Array (Option Value)) (p1 p2 q1 q2 q3 q4 : Pos),
    K.lookup fI = some ⟨oc, od, .func (fnOf "__init__" qn (iA p1 p2) (iB q1 q2 q3 q4) iS .none .none doc pm an cdv ct), osl⟩ ∧ codeIn K cdv qn = true
theorem one_size (v : Value) : [v].length ≤ sizeLine := by
  rw [sizeLine_eq]
  exact (by decide : 1 ≤ 16777216)
theorem kept_but {K : Frag} {h h' : Heap} {x : Addr} (X : K.In h) (hx : K.lookup x = none) (k : ∀ b o, b ≠ x → h.get? b = some o → h'.get? b = some o) : K.In h' := fun a o e =>
  k a o (fun z => by rw [z, hx] at e; cases e) (X a o e)
theorem ldC {M : Model} {s : Shared} {name : Str} {scope : Scope} {L a : Addr} {cd : Value} {m : Str → Option Value} {x : Str} {pos : Pos} {v : Value} {Q : Value → Shared → Prop} {A : Around} {E : Value → Shared → Prop} (hn : s.heap.Ns L m) (hv : m x = some v) (h : Q v s)
    (hk : scope.kind = .function := by rfl) (hl : (envOfC name scope L a cd).kindOf x = some .local := by rfl) (hd : (x == ("__debug__" : Str)) = false := by decide) :
    wpAny M A (eval (.Name x pos) (envOfC name scope L a cd)) Q E s := wpAny_Name (wpAny_loadName_local hk hl hn hv h) hd
/-- what __init__ leaves of a fresh exception at x -/
structure InitEnd (h h' : Heap) (x C dx t1 : Addr) (v : Value) : Prop where
  keep : ∀ b o, b ≠ x → h.get? b = some o → h'.get? b = some o
  obj : h'.get? x = some { cls := .ref C, dict := some dx, data := .fields #[.ref t1, .none, .none, .none, .bool false, .none] }
  dbig : h.objs.size ≤ dx
  dne : dx ≠ x
  ns : h'.Ns1 dx (fun y => if y = "most" then some v else none)
/-- a made Low -/
structure OwnMade (h h' : Heap) (e C d : Addr) (v : Value) : Prop where
  keep : ∀ b o, h.get? b = some o → h'.get? b = some o
  new : h.objs.size ≤ e
  obj : ∃ oe vs, h'.get? e = some oe ∧ oe.cls = .ref C ∧ oe.dict = some d ∧ oe.data = .fields vs ∧ vs[1]? = some .none
  dbig : h.objs.size ≤ d
  dne : d ≠ e
  ns : h'.Ns1 d (fun y => if y = "most" then some v else none)
section
variable {prog : Program} {w : World} {A : Around} {E : Value → Shared → Prop} {R : Result → Shared → Prop} {s : Shared} {K : Frag} {mg : Str → Option Value} {C fI : Addr} {cn qn : Str}
theorem low_init (T : LowTxt K mg cn qn C fI) {x t0 : Addr} {v : Value} (X : K.In s.heap) (hlim : s.heap.NoLimit) (hx : s.heap.get? x = some (excO C t0)) (hnx : K.lookup x = none) (hroom : A.depth < recursionLimit)
    (hq : ∀ h' tk dx, InitEnd s.heap h' x C dx t0 v → R (.ok (.ret .none)) { s with heap := h', toks := tk }) :
    codeAny (model prog w) A (.call (.ref fI) ⟨[.ref x, v], []⟩) R s := by
  obtain ⟨oc, od, doc, pm, an, cdv, ct, osl, p1, p2, q1, q2, q3, q4, ho, hcd⟩ := T.fn
  obtain ⟨nm, q, N, bs, bm, sn, sub, ab, col, dd, k0, k1, k2, k3, k5, hC, hbm⟩ := T.cls
  have hcl : clsIn K C = some { name := nm, bases := bs, mro := .ref C :: bm, ns := N, qualname := q, hasDict := true, slotNames := sn, subclasses := sub, abstract := ab, collection := col, hasDel := false } := by unfold clsIn; rw [hC] <;> rfl
  refine Att.call_fn (binds := [("self", .ref x), ("most", v)]) X hlim ho hcd hroom (BindsTo.of_eq (by first | rfl | with_unfolding_all rfl)) (by first | rfl | decide | with_unfolding_all rfl) (fun s₁ IC => ?_) rfl rfl rfl
  obtain ⟨h₁, tk₁, rfl⟩ := IC.toInCall.same
  have k : ∀ b o, s.heap.get? b = some o → h₁.get? b = some o := IC.toInCall.keep
  have hn := IC.toInCall.ns
  have hxL : s.heap.objs.size ≠ x := Nat.ne_of_gt (Heap.lt_size hx)
  have X₁ : K.In h₁ := X.keeps k
  have hx₁ := k _ _ hx
  -- self.by = by
  show wpAny _ _ (execs _ _) _ _ _
  refine wpAny_execs_cons (plainObj_wpAny_Assign_Attribute ?_)
  refine ldC (v := v) hn (by first | rfl | with_unfolding_all rfl | kernel_rfl) (ldC (v := .ref x) hn (by first | rfl | with_unfolding_all rfl | kernel_rfl) ?_)
  refine set_plain X₁ (ox := excO C t0) (od := none) ⟨hx₁, rfl, rfl, trivial⟩ T.sa ?_
  refine exc_osa X₁ hx₁ hcl (show refsVE (.ref C :: bm) = true from hbm) rfl T.noN (fun h₃ tk₃ dx k₃ dn dne hx₃ hn₃ => ?_)
  show wpAny _ _ (execs _ _) _ _ _
  have z : s.heap.objs.size < h₁.objs.size := hn.lt
  exact wpAny_execs_nil (hq h₃ tk₃ dx ⟨fun b o hb e => k₃ b o hb (k b o e), hx₃, Nat.le_of_lt (Nat.lt_of_lt_of_le z dn), dne, hn₃⟩)
theorem low_made (T : LowTxt K mg cn qn C fI) {v : Value} (X : K.In s.heap) (hlim : s.heap.NoLimit) (hroom : A.depth + 1 < recursionLimit)
    (hq : ∀ h' tk e d, OwnMade s.heap h' e C d v → R (.ok (.ret (.ref e))) { s with heap := h', toks := tk }) :
    codeAny (model prog w) A (.call (.ref C) ⟨[v], []⟩) R s := by
  obtain ⟨nm, q, N, bs, bm, sn, sub, ab, col, dd, k0, k1, k2, k3, k5, hC, hbm⟩ := T.cls
  obtain ⟨hp, g, dr, tk, os⟩ := s
  have k : ∀ b o, hp.get? b = some o → ((hp.push (kdv_tup [v])).push (excO C hp.objs.size)).get? b = some o := fun b o e => Heap.get?_push_of_some _ (Heap.get?_push_of_some _ e)
  have hget : ((hp.push (kdv_tup [v])).push (excO C hp.objs.size)).get? (hp.objs.size + 1) = some (excO C hp.objs.size) := by heap_get
  have hnx : K.lookup (hp.objs.size + 1) = none := by
    cases e : K.lookup (hp.objs.size + 1) with
    | none => rfl
    | some o =>
      have z : hp.get? (hp.objs.size + 1) = some o := X _ _ e
      exact absurd (Nat.lt_of_succ_lt (Heap.lt_size z)) (Nat.lt_irrefl _)
  refine call_own F.excBase_ValueError (fun X => refsVE_contains X bm hbm) (X _ _ hC) (looks_findIn X T.iC) (fun self => bind_fn X self T.tC) (one_size v) ?_
  refine low_init (s := ⟨(hp.push (kdv_tup [v])).push (excO C hp.objs.size), g, dr, tk, os⟩) T (X.keeps k) (hlim.keeps k) hget hnx ?_ fun h' tk' dx ⟨k', hx, dn, dne, hns⟩ => ?_
  · show A.depth + 1 < recursionLimit
    exact hroom
  · have old : ∀ b o, hp.get? b = some o → h'.get? b = some o := fun b o e => k' b o (Nat.ne_of_lt (Nat.lt_succ_of_lt (Heap.lt_size e))) (k b o e)
    have z : hp.objs.size + 1 + 1 ≤ dx := by
      first
        | (simpa only [Heap.size_push] using dn)
        | exact dn
        | (have q := dn; rw [Heap.size_push, Heap.size_push] at q; exact q)
    exact ⟨rfl, hq h' tk' (hp.objs.size + 1) dx ⟨old, Nat.le_succ _, ⟨_, _, hx, rfl, rfl, rfl, rfl⟩, Nat.le_trans (Nat.le_trans (Nat.le_succ _) (Nat.le_succ _)) z, dne, hns⟩⟩
end
end LowM
end PySem
namespace L2
open PySem PySem.Spec PyProof.Rows
theorem relO_lowM {v : V} {v' : Value} (r : RelV v v') (f : Str) : RelO (List.lookup f [(("most" : Str), v)]) (if f = "most" then some v' else none) := by
  by_cases hw : f = "most"
  · subst hw
    rw [if_pos rfl]
    have q : List.lookup ("most" : Str) [(("most" : Str), v)] = some v := by simp [List.lookup]
    rw [q]
    exact r
  · rw [if_neg hw]
    have qw : (f == ("most" : Str)) = false := by simpa using hw
    have q2 : List.lookup f [(("most" : Str), v)] = none := by simp [List.lookup, qw]
    rw [q2]
    trivial
section
variable {X : Cx} {C fI : Addr} {cn qn : Str}
/-- Low(e) -/
def tMkLowM (C : Addr) (ta : TA) : St → Hp → XK → Prop := fun σ H Q => ta σ H fun vs H1 => ∃ v, vs = [v] ∧ ∀ d, H1 d = none → Q (.ref C) (some d) (upd H1 d (.xd [(("most" : Str), v)]))
theorem pmk_lowM {a : Expr} {ta : TA} {p pos : Pos} {k : Nat} (T : PySem.LowM.LowTxt X.K X.mg cn qn C fI) (hr : Room k X.A) (ha : PA X [a] ta) (hg : Gl X cn) (hdb : (cn == ("__debug__" : Str)) = false := by decide)
    (he : starEach (a :: []) X.env = (false, eval a X.env) :: starEach [] X.env := by rfl) (hpl : (backTo pos (starEach [] X.env)).any (·.1) = false := by rfl) :
    PMk X (.Call (.Name cn p) [a] [] pos) (tMkLowM C ta) := by
  intro pins s σ H Q I h
  refine wpAny_Call_Name_kw (ld_glob I hg T.gC ?_ hdb)
  refine PySem.W.callWith_K (h₀ := X.base) I.ok.mod.kin T.kC (thn (ha.run pos pins s σ H _ I h) fun us s1 hh => ?_) he hpl
  obtain ⟨vs, H1, I1, r1, v, ev, q1⟩ := hh
  subst ev
  refine ⟨I1.kIn, ?_⟩
  cases r1 with
  | cons rv rn =>
    rename_i v' us'
    cases rn
    show wpAny _ _ (call (.ref C) [v']) _ _ _
    have hlim := I1.nolimit
    obtain ⟨hp, g, dr, tk, os⟩ := s1
    refine wpAny_call (PySem.LowM.low_made T I1.kIn hlim (by have := hr.dp; omega) fun h' tk' e d M => ?_)
    show MkP X pins σ Q (.ref e) ⟨h', g, dr, tk', os⟩
    obtain ⟨oe, fv, hoe, hc, hd, hdat, h1⟩ := M.obj
    have hns := M.ns
    obtain ⟨G', g1, g2⟩ := restrict h' fun b => decide (b ≠ e)
    have gk : ∀ b, b ≠ e → G'.get? b = h'.get? b := fun b hb => g1 b (decide_eq_true hb)
    have ge : G'.get? e = none := g2 e (by simp)
    have old : ∀ b o, hp.get? b = some o → G'.get? b = some o := fun b o q => (gk b (Nat.ne_of_lt (Nat.lt_of_lt_of_le (Heap.lt_size q) M.new))).trans (M.keep b o q)
    have ob : ObjOk X.prog X.w (upd H1 d (.xd [(("most" : Str), v)])) G' d (.xd [(("most" : Str), v)]) :=
      ⟨_, hns.at (fun o q => (gk d M.dne).trans q), fun f => relO_lowM rv f⟩
    have J : Inv X pins σ (upd H1 d (.xd [(("most" : Str), v)])) ⟨G', g, dr, tk', os⟩ := I1.laid (t' := tk') old M.dbig ob
    refine ⟨e, oe, fv, ⟨G', g, dr, tk', os⟩, _, .ref C, some d, rfl, J, fun b o q => ?_, ge, hoe, ⟨hc, hd⟩, hdat, h1, ?_, rfl, I1.bare, raises_own T.exC T.tyC, q1 d (I1.hok.fresh M.dbig)⟩
    · by_cases hb : b = e
      · have q' : G'.get? b = some o := q
        rw [hb, ge] at q'; cases q'
      · exact (gk b hb).symm.trans q
    · rw [upd_ne (Ne.symm M.dne)]
      exact I1.hok.fresh M.new
/-- raise Low(e) -/
def tRaiseLowM (C : Addr) (W : WX) (ta : TA) : TS := fun _ σ H => tMkLowM C ta σ H fun cls d H' => W cls d σ H'
theorem ps_raiseLowM {a : Expr} {ta : TA} {W : WX} {p pos pos2 : Pos} {k : Nat} (hc : X.calm = true) (T : PySem.LowM.LowTxt X.K X.mg cn qn C fI) (hr : Room k X.A) (tk : Takes X W) (ha : PA X [a] ta) (hg : Gl X cn) (hdb : (cn == ("__debug__" : Str)) = false := by decide)
    (he : starEach (a :: []) X.env = (false, eval a X.env) :: starEach [] X.env := by rfl) (hpl : (backTo pos (starEach [] X.env)).any (·.1) = false := by rfl) :
    PS X (.Raise (some (.Call (.Name cn p) [a] [] pos)) none pos2) (tRaiseLowM C W ta) := ps_raise hc tk (pmk_lowM T hr ha hg hdb he hpl)
/-- low.by, low the exception that the suite holds (at a; its class cls, its dict d) -/
def tByLowM (C : Addr) (a : Addr) (cls : Value) (d : Option Addr) (te : TE) : TE := fun σ H Q => te σ H fun x H1 => x = .ref a ∧ cls = .ref C ∧ ∃ (dd : Addr) (v : V), d = some dd ∧ H1 dd = some (.xd [(("most" : Str), v)]) ∧ Q v H1
theorem pe_byLowM {a : Addr} {oe : Obj} {cls : Value} {d : Option Addr} {pn : List (Addr × Obj)} {e : Expr} {te : TE} {pos : Pos} (T : PySem.LowM.LowTxt X.K X.mg cn qn C fI) (hz : Zc cls d oe) (hf : ∃ vs, oe.data = .fields vs) (he : PE (X.suite a ((a, oe) :: pn)) e te)
    (hb : attributeBase e "most" X.env (eval e X.env) = eval e X.env := by rfl) :
    PE (X.suite a ((a, oe) :: pn)) (.Attribute e "most" pos) (tByLowM C a cls d te) := by
  refine ⟨fun pins s σ H Q I h => ?_⟩
  refine attr_of hb (thn (he.run pins s σ H _ I h) fun u s1 hh => ?_)
  obtain ⟨x, H1, I1, rx, ex, ec, dd, v, ed, ea, q⟩ := hh
  subst ex
  obtain rfl : u = Value.ref a := rx
  subst ec
  subst ed
  obtain ⟨ha, _⟩ := I1.pin (a, oe) (List.mem_append_left _ List.mem_cons_self)
  obtain ⟨vs, hd⟩ := hf
  have hx : ObjOk X.prog X.w H1 s1.heap dd (.xd [(("most" : Str), v)]) := I1.hok dd _ ea
  obtain ⟨mA, hns, hr⟩ := hx
  obtain ⟨od, ho, hl⟩ := lookIn_ns hns
  have l : List.lookup ("most" : Str) [(("most" : Str), v)] = some v := by simp [List.lookup]
  obtain ⟨u, hu, ru⟩ := RelO.some_of (v := v) (o := mA "most") (by rw [← l]; exact hr "most")
  have J : PySem.W.InstAt s1.heap a oe C (some od) := ⟨ha, hz.1, by unfold PySem.W.notCls; rw [hd] <;> rfl, by rw [hz.2]; exact ho⟩
  exact HandSPX.exc_get I1.kIn J T.ga T.gg T.exC (PySem.W.findObj_own T.hdC T.noN rfl (by rw [hl, hu])) (handed_of ru) ⟨v, H1, I1.tok _, ru, q⟩
end
end L2

namespace PySem
namespace LowC
open PySem.W PySem.Calls PyProof.Rows PySem.HandSPX
/-! ### the text of __init__ -/
def iA (p1 p2 : Pos) : Arguments := { posonlyargs := [], args := [{ arg := "self", annotation := none, pos := p1 }, { arg := "cut", annotation := none, pos := p2 }], vararg := none, kwonlyargs := [], kw_defaults := [], kwarg := none, defaults := [] }
def iB (q1 q2 q3 q4 : Pos) : List Stmt := [.Assign [.Attribute (.Name "self" q1) "cut" q2] (.Name "cut" q3) q4]
def iS : Scope := { kind := .function, names := [(PySem.Str.ofString "self", .local), (PySem.Str.ofString "cut", .local)], isGenerator := false, isCoroutine := false, more := [] }
/-- what the written part says of Low, at C, and of its __init__, at fI -/
structure LowTxt (K : Frag) (mg : Str → Option Value) (cn qn : Str) (C fI : Addr) : Prop where
  gC : mg cn = some (.ref C)
  cls : ∃ nm q N bs bm sn sub ab col dd k0 k1 k2 k3 k5, K.lookup C = some (excClassObj nm q C N bs bm true sn sub ab col dd k0 k1 k2 k3 k5 "ValueError.__new__") ∧ refsVE bm = true
  sa : findIn K (.ref C) "__setattr__" = some (some (.builtin "object.__setattr__"))
  ga : findIn K (.ref C) "__getattribute__" = some (some (.builtin "BaseException.__getattribute__"))
  gg : findIn K (.ref C) "__getattr__" = some none
  noN : findIn K (.ref C) "cut" = some none
  iC : findIn K (.ref C) "__init__" = some (some (.ref fI))
  tC : typeIn K (.ref fI) = some (.type "function")
  kC : keepIn K (.ref C) = true
  exC : subIn K (.ref C) (.type "BaseException") = some true
  tyC : typeIn K (.ref C) = some (.type "type")
  hdC : hasDictIn K C = true
  te : exmOne K (.ref C) (.ref C) = some true
  fn : ∃ (oc : Value) (od : Option Addr) (doc pm : Value) (an : Option Addr) (cdv ct : Value) (osl : Array (Option Value)) (p1 p2 q1 q2 q3 q4 : Pos),
    K.lookup fI = some ⟨oc, od, .func (fnOf "__init__" qn (iA p1 p2) (iB q1 q2 q3 q4) iS .none .none doc pm an cdv ct), osl⟩ ∧ codeIn K cdv qn = true
theorem one_size (v : Value) : [v].length ≤ sizeLine := by
  rw [sizeLine_eq]
  exact (by decide : 1 ≤ 16777216)
theorem kept_but {K : Frag} {h h' : Heap} {x : Addr} (X : K.In h) (hx : K.lookup x = none) (k : ∀ b o, b ≠ x → h.get? b = some o → h'.get? b = some o) : K.In h' := fun a o e =>
  k a o (fun z => by rw [z, hx] at e; cases e) (X a o e)
theorem ldC {M : Model} {s : Shared} {name : Str} {scope : Scope} {L a : Addr} {cd : Value} {m : Str → Option Value} {x : Str} {pos : Pos} {v : Value} {Q : Value → Shared → Prop} {A : Around} {E : Value → Shared → Prop} (hn : s.heap.Ns L m) (hv : m x = some v) (h : Q v s)
    (hk : scope.kind = .function := by rfl) (hl : (envOfC name scope L a cd).kindOf x = some .local := by rfl) (hd : (x == ("__debug__" : Str)) = false := by decide) :
    wpAny M A (eval (.Name x pos) (envOfC name scope L a cd)) Q E s := wpAny_Name (wpAny_loadName_local hk hl hn hv h) hd
/-- what __init__ leaves of a fresh exception at x -/
structure InitEnd (h h' : Heap) (x C dx t1 : Addr) (v : Value) : Prop where
  keep : ∀ b o, b ≠ x → h.get? b = some o → h'.get? b = some o
  obj : h'.get? x = some { cls := .ref C, dict := some dx, data := .fields #[.ref t1, .none, .none, .none, .bool false, .none] }
  dbig : h.objs.size ≤ dx
  dne : dx ≠ x
  ns : h'.Ns1 dx (fun y => if y = "cut" then some v else none)
/-- a made Low -/
structure OwnMade (h h' : Heap) (e C d : Addr) (v : Value) : Prop where
  keep : ∀ b o, h.get? b = some o → h'.get? b = some o
  new : h.objs.size ≤ e
  obj : ∃ oe vs, h'.get? e = some oe ∧ oe.cls = .ref C ∧ oe.dict = some d ∧ oe.data = .fields vs ∧ vs[1]? = some .none
  dbig : h.objs.size ≤ d
  dne : d ≠ e
  ns : h'.Ns1 d (fun y => if y = "cut" then some v else none)
section
variable {prog : Program} {w : World} {A : Around} {E : Value → Shared → Prop} {R : Result → Shared → Prop} {s : Shared} {K : Frag} {mg : Str → Option Value} {C fI : Addr} {cn qn : Str}
theorem low_init (T : LowTxt K mg cn qn C fI) {x t0 : Addr} {v : Value} (X : K.In s.heap) (hlim : s.heap.NoLimit) (hx : s.heap.get? x = some (excO C t0)) (hnx : K.lookup x = none) (hroom : A.depth < recursionLimit)
    (hq : ∀ h' tk dx, InitEnd s.heap h' x C dx t0 v → R (.ok (.ret .none)) { s with heap := h', toks := tk }) :
    codeAny (model prog w) A (.call (.ref fI) ⟨[.ref x, v], []⟩) R s := by
  obtain ⟨oc, od, doc, pm, an, cdv, ct, osl, p1, p2, q1, q2, q3, q4, ho, hcd⟩ := T.fn
  obtain ⟨nm, q, N, bs, bm, sn, sub, ab, col, dd, k0, k1, k2, k3, k5, hC, hbm⟩ := T.cls
  have hcl : clsIn K C = some { name := nm, bases := bs, mro := .ref C :: bm, ns := N, qualname := q, hasDict := true, slotNames := sn, subclasses := sub, abstract := ab, collection := col, hasDel := false } := by unfold clsIn; rw [hC] <;> rfl
  refine Att.call_fn (binds := [("self", .ref x), ("cut", v)]) X hlim ho hcd hroom (BindsTo.of_eq (by first | rfl | with_unfolding_all rfl)) (by first | rfl | decide | with_unfolding_all rfl) (fun s₁ IC => ?_) rfl rfl rfl
  obtain ⟨h₁, tk₁, rfl⟩ := IC.toInCall.same
  have k : ∀ b o, s.heap.get? b = some o → h₁.get? b = some o := IC.toInCall.keep
  have hn := IC.toInCall.ns
  have hxL : s.heap.objs.size ≠ x := Nat.ne_of_gt (Heap.lt_size hx)
  have X₁ : K.In h₁ := X.keeps k
  have hx₁ := k _ _ hx
  -- self.by = by
  show wpAny _ _ (execs _ _) _ _ _
  refine wpAny_execs_cons (plainObj_wpAny_Assign_Attribute ?_)
  refine ldC (v := v) hn (by first | rfl | with_unfolding_all rfl | kernel_rfl) (ldC (v := .ref x) hn (by first | rfl | with_unfolding_all rfl | kernel_rfl) ?_)
  refine set_plain X₁ (ox := excO C t0) (od := none) ⟨hx₁, rfl, rfl, trivial⟩ T.sa ?_
  refine exc_osa X₁ hx₁ hcl (show refsVE (.ref C :: bm) = true from hbm) rfl T.noN (fun h₃ tk₃ dx k₃ dn dne hx₃ hn₃ => ?_)
  show wpAny _ _ (execs _ _) _ _ _
  have z : s.heap.objs.size < h₁.objs.size := hn.lt
  exact wpAny_execs_nil (hq h₃ tk₃ dx ⟨fun b o hb e => k₃ b o hb (k b o e), hx₃, Nat.le_of_lt (Nat.lt_of_lt_of_le z dn), dne, hn₃⟩)
theorem low_made (T : LowTxt K mg cn qn C fI) {v : Value} (X : K.In s.heap) (hlim : s.heap.NoLimit) (hroom : A.depth + 1 < recursionLimit)
    (hq : ∀ h' tk e d, OwnMade s.heap h' e C d v → R (.ok (.ret (.ref e))) { s with heap := h', toks := tk }) :
    codeAny (model prog w) A (.call (.ref C) ⟨[v], []⟩) R s := by
  obtain ⟨nm, q, N, bs, bm, sn, sub, ab, col, dd, k0, k1, k2, k3, k5, hC, hbm⟩ := T.cls
  obtain ⟨hp, g, dr, tk, os⟩ := s
  have k : ∀ b o, hp.get? b = some o → ((hp.push (kdv_tup [v])).push (excO C hp.objs.size)).get? b = some o := fun b o e => Heap.get?_push_of_some _ (Heap.get?_push_of_some _ e)
  have hget : ((hp.push (kdv_tup [v])).push (excO C hp.objs.size)).get? (hp.objs.size + 1) = some (excO C hp.objs.size) := by heap_get
  have hnx : K.lookup (hp.objs.size + 1) = none := by
    cases e : K.lookup (hp.objs.size + 1) with
    | none => rfl
    | some o =>
      have z : hp.get? (hp.objs.size + 1) = some o := X _ _ e
      exact absurd (Nat.lt_of_succ_lt (Heap.lt_size z)) (Nat.lt_irrefl _)
  refine call_own F.excBase_ValueError (fun X => refsVE_contains X bm hbm) (X _ _ hC) (looks_findIn X T.iC) (fun self => bind_fn X self T.tC) (one_size v) ?_
  refine low_init (s := ⟨(hp.push (kdv_tup [v])).push (excO C hp.objs.size), g, dr, tk, os⟩) T (X.keeps k) (hlim.keeps k) hget hnx ?_ fun h' tk' dx ⟨k', hx, dn, dne, hns⟩ => ?_
  · show A.depth + 1 < recursionLimit
    exact hroom
  · have old : ∀ b o, hp.get? b = some o → h'.get? b = some o := fun b o e => k' b o (Nat.ne_of_lt (Nat.lt_succ_of_lt (Heap.lt_size e))) (k b o e)
    have z : hp.objs.size + 1 + 1 ≤ dx := by
      first
        | (simpa only [Heap.size_push] using dn)
        | exact dn
        | (have q := dn; rw [Heap.size_push, Heap.size_push] at q; exact q)
    exact ⟨rfl, hq h' tk' (hp.objs.size + 1) dx ⟨old, Nat.le_succ _, ⟨_, _, hx, rfl, rfl, rfl, rfl⟩, Nat.le_trans (Nat.le_trans (Nat.le_succ _) (Nat.le_succ _)) z, dne, hns⟩⟩
end
end LowC
end PySem
namespace L2
open PySem PySem.Spec PyProof.Rows
theorem relO_lowC {v : V} {v' : Value} (r : RelV v v') (f : Str) : RelO (List.lookup f [(("cut" : Str), v)]) (if f = "cut" then some v' else none) := by
  by_cases hw : f = "cut"
  · subst hw
    rw [if_pos rfl]
    have q : List.lookup ("cut" : Str) [(("cut" : Str), v)] = some v := by simp [List.lookup]
    rw [q]
    exact r
  · rw [if_neg hw]
    have qw : (f == ("cut" : Str)) = false := by simpa using hw
    have q2 : List.lookup f [(("cut" : Str), v)] = none := by simp [List.lookup, qw]
    rw [q2]
    trivial
section
variable {X : Cx} {C fI : Addr} {cn qn : Str}
/-- Low(e) -/
def tMkLowC (C : Addr) (ta : TA) : St → Hp → XK → Prop := fun σ H Q => ta σ H fun vs H1 => ∃ v, vs = [v] ∧ ∀ d, H1 d = none → Q (.ref C) (some d) (upd H1 d (.xd [(("cut" : Str), v)]))
theorem pmk_lowC {a : Expr} {ta : TA} {p pos : Pos} {k : Nat} (T : PySem.LowC.LowTxt X.K X.mg cn qn C fI) (hr : Room k X.A) (ha : PA X [a] ta) (hg : Gl X cn) (hdb : (cn == ("__debug__" : Str)) = false := by decide)
    (he : starEach (a :: []) X.env = (false, eval a X.env) :: starEach [] X.env := by rfl) (hpl : (backTo pos (starEach [] X.env)).any (·.1) = false := by rfl) :
    PMk X (.Call (.Name cn p) [a] [] pos) (tMkLowC C ta) := by
  intro pins s σ H Q I h
  refine wpAny_Call_Name_kw (ld_glob I hg T.gC ?_ hdb)
  refine PySem.W.callWith_K (h₀ := X.base) I.ok.mod.kin T.kC (thn (ha.run pos pins s σ H _ I h) fun us s1 hh => ?_) he hpl
  obtain ⟨vs, H1, I1, r1, v, ev, q1⟩ := hh
  subst ev
  refine ⟨I1.kIn, ?_⟩
  cases r1 with
  | cons rv rn =>
    rename_i v' us'
    cases rn
    show wpAny _ _ (call (.ref C) [v']) _ _ _
    have hlim := I1.nolimit
    obtain ⟨hp, g, dr, tk, os⟩ := s1
    refine wpAny_call (PySem.LowC.low_made T I1.kIn hlim (by have := hr.dp; omega) fun h' tk' e d M => ?_)
    show MkP X pins σ Q (.ref e) ⟨h', g, dr, tk', os⟩
    obtain ⟨oe, fv, hoe, hc, hd, hdat, h1⟩ := M.obj
    have hns := M.ns
    obtain ⟨G', g1, g2⟩ := restrict h' fun b => decide (b ≠ e)
    have gk : ∀ b, b ≠ e → G'.get? b = h'.get? b := fun b hb => g1 b (decide_eq_true hb)
    have ge : G'.get? e = none := g2 e (by simp)
    have old : ∀ b o, hp.get? b = some o → G'.get? b = some o := fun b o q => (gk b (Nat.ne_of_lt (Nat.lt_of_lt_of_le (Heap.lt_size q) M.new))).trans (M.keep b o q)
    have ob : ObjOk X.prog X.w (upd H1 d (.xd [(("cut" : Str), v)])) G' d (.xd [(("cut" : Str), v)]) :=
      ⟨_, hns.at (fun o q => (gk d M.dne).trans q), fun f => relO_lowC rv f⟩
    have J : Inv X pins σ (upd H1 d (.xd [(("cut" : Str), v)])) ⟨G', g, dr, tk', os⟩ := I1.laid (t' := tk') old M.dbig ob
    refine ⟨e, oe, fv, ⟨G', g, dr, tk', os⟩, _, .ref C, some d, rfl, J, fun b o q => ?_, ge, hoe, ⟨hc, hd⟩, hdat, h1, ?_, rfl, I1.bare, raises_own T.exC T.tyC, q1 d (I1.hok.fresh M.dbig)⟩
    · by_cases hb : b = e
      · have q' : G'.get? b = some o := q
        rw [hb, ge] at q'; cases q'
      · exact (gk b hb).symm.trans q
    · rw [upd_ne (Ne.symm M.dne)]
      exact I1.hok.fresh M.new
/-- raise Low(e) -/
def tRaiseLowC (C : Addr) (W : WX) (ta : TA) : TS := fun _ σ H => tMkLowC C ta σ H fun cls d H' => W cls d σ H'
theorem ps_raiseLowC {a : Expr} {ta : TA} {W : WX} {p pos pos2 : Pos} {k : Nat} (hc : X.calm = true) (T : PySem.LowC.LowTxt X.K X.mg cn qn C fI) (hr : Room k X.A) (tk : Takes X W) (ha : PA X [a] ta) (hg : Gl X cn) (hdb : (cn == ("__debug__" : Str)) = false := by decide)
    (he : starEach (a :: []) X.env = (false, eval a X.env) :: starEach [] X.env := by rfl) (hpl : (backTo pos (starEach [] X.env)).any (·.1) = false := by rfl) :
    PS X (.Raise (some (.Call (.Name cn p) [a] [] pos)) none pos2) (tRaiseLowC C W ta) := ps_raise hc tk (pmk_lowC T hr ha hg hdb he hpl)
/-- low.by, low the exception that the suite holds (at a; its class cls, its dict d) -/
def tByLowC (C : Addr) (a : Addr) (cls : Value) (d : Option Addr) (te : TE) : TE := fun σ H Q => te σ H fun x H1 => x = .ref a ∧ cls = .ref C ∧ ∃ (dd : Addr) (v : V), d = some dd ∧ H1 dd = some (.xd [(("cut" : Str), v)]) ∧ Q v H1
theorem pe_byLowC {a : Addr} {oe : Obj} {cls : Value} {d : Option Addr} {pn : List (Addr × Obj)} {e : Expr} {te : TE} {pos : Pos} (T : PySem.LowC.LowTxt X.K X.mg cn qn C fI) (hz : Zc cls d oe) (hf : ∃ vs, oe.data = .fields vs) (he : PE (X.suite a ((a, oe) :: pn)) e te)
    (hb : attributeBase e "cut" X.env (eval e X.env) = eval e X.env := by rfl) :
    PE (X.suite a ((a, oe) :: pn)) (.Attribute e "cut" pos) (tByLowC C a cls d te) := by
  refine ⟨fun pins s σ H Q I h => ?_⟩
  refine attr_of hb (thn (he.run pins s σ H _ I h) fun u s1 hh => ?_)
  obtain ⟨x, H1, I1, rx, ex, ec, dd, v, ed, ea, q⟩ := hh
  subst ex
  obtain rfl : u = Value.ref a := rx
  subst ec
  subst ed
  obtain ⟨ha, _⟩ := I1.pin (a, oe) (List.mem_append_left _ List.mem_cons_self)
  obtain ⟨vs, hd⟩ := hf
  have hx : ObjOk X.prog X.w H1 s1.heap dd (.xd [(("cut" : Str), v)]) := I1.hok dd _ ea
  obtain ⟨mA, hns, hr⟩ := hx
  obtain ⟨od, ho, hl⟩ := lookIn_ns hns
  have l : List.lookup ("cut" : Str) [(("cut" : Str), v)] = some v := by simp [List.lookup]
  obtain ⟨u, hu, ru⟩ := RelO.some_of (v := v) (o := mA "cut") (by rw [← l]; exact hr "cut")
  have J : PySem.W.InstAt s1.heap a oe C (some od) := ⟨ha, hz.1, by unfold PySem.W.notCls; rw [hd] <;> rfl, by rw [hz.2]; exact ho⟩
  exact HandSPX.exc_get I1.kIn J T.ga T.gg T.exC (PySem.W.findObj_own T.hdC T.noN rfl (by rw [hl, hu])) (handed_of ru) ⟨v, H1, I1.tok _, ru, q⟩
end
end L2

namespace RR
open PySem PySem.Spec PyProof.Rows L2

/-- Low(e), as a value -/
theorem pe_mkLowA {X : Cx} {C fI : Addr} {cn qn : Str} {a : Expr} {ta : TA} {p pos : Pos} {k : Nat} (T : PySem.LowA.LowTxt X.K X.mg cn qn C fI) (hr : Room k X.A) (ha : PA X [a] ta) (hg : Gl X cn) (hdb : (cn == ("__debug__" : Str)) = false := by decide)
    (he : starEach (a :: []) X.env = (false, eval a X.env) :: starEach [] X.env := by rfl) (hpl : (backTo pos (starEach [] X.env)).any (·.1) = false := by rfl) : PE X (.Call (.Name cn p) [a] [] pos) (tMkV "at" C ta) := by
  refine ⟨fun pins s σ H Q I h => wpAny_Call_Name_kw (ld_glob I hg T.gC (PySem.W.callWith_K (h₀ := X.base) I.ok.mod.kin T.kC (thn (ha.run pos pins s σ H _ I h) fun us s1 hh => ?_) he hpl) hdb)⟩
  obtain ⟨vs, H1, I1, r1, v, rfl, q1⟩ := hh
  refine ⟨I1.kIn, ?_⟩
  obtain ⟨v', rfl, rv⟩ := r1.one
  show wpAny _ _ (call (.ref C) [v']) _ _ _
  have nl := I1.nolimit
  have room : X.A.depth + 1 < recursionLimit := by have := hr.dp; omega
  obtain ⟨hp, g, dr, tk, os⟩ := s1
  exact wpAny_call (PySem.LowA.low_made T I1.kIn nl room fun h' tk' e d M => made_val I1 M.keep M.new M.obj M.dbig M.dne M.ns (fun f => relO_lowA rv f) (q1 e d))

/-- Low(e), as a value -/
theorem pe_mkLowN {X : Cx} {C fI : Addr} {cn qn : Str} {a : Expr} {ta : TA} {p pos : Pos} {k : Nat} (T : PySem.LowN.LowTxt X.K X.mg cn qn C fI) (hr : Room k X.A) (ha : PA X [a] ta) (hg : Gl X cn) (hdb : (cn == ("__debug__" : Str)) = false := by decide)
    (he : starEach (a :: []) X.env = (false, eval a X.env) :: starEach [] X.env := by rfl) (hpl : (backTo pos (starEach [] X.env)).any (·.1) = false := by rfl) : PE X (.Call (.Name cn p) [a] [] pos) (tMkV "name" C ta) := by
  refine ⟨fun pins s σ H Q I h => wpAny_Call_Name_kw (ld_glob I hg T.gC (PySem.W.callWith_K (h₀ := X.base) I.ok.mod.kin T.kC (thn (ha.run pos pins s σ H _ I h) fun us s1 hh => ?_) he hpl) hdb)⟩
  obtain ⟨vs, H1, I1, r1, v, rfl, q1⟩ := hh
  refine ⟨I1.kIn, ?_⟩
  obtain ⟨v', rfl, rv⟩ := r1.one
  show wpAny _ _ (call (.ref C) [v']) _ _ _
  have nl := I1.nolimit
  have room : X.A.depth + 1 < recursionLimit := by have := hr.dp; omega
  obtain ⟨hp, g, dr, tk, os⟩ := s1
  exact wpAny_call (PySem.LowN.low_made T I1.kIn nl room fun h' tk' e d M => made_val I1 M.keep M.new M.obj M.dbig M.dne M.ns (fun f => relO_lowN rv f) (q1 e d))

/-- Low(e), as a value -/
theorem pe_mkLowM {X : Cx} {C fI : Addr} {cn qn : Str} {a : Expr} {ta : TA} {p pos : Pos} {k : Nat} (T : PySem.LowM.LowTxt X.K X.mg cn qn C fI) (hr : Room k X.A) (ha : PA X [a] ta) (hg : Gl X cn) (hdb : (cn == ("__debug__" : Str)) = false := by decide)
    (he : starEach (a :: []) X.env = (false, eval a X.env) :: starEach [] X.env := by rfl) (hpl : (backTo pos (starEach [] X.env)).any (·.1) = false := by rfl) : PE X (.Call (.Name cn p) [a] [] pos) (tMkV "most" C ta) := by
  refine ⟨fun pins s σ H Q I h => wpAny_Call_Name_kw (ld_glob I hg T.gC (PySem.W.callWith_K (h₀ := X.base) I.ok.mod.kin T.kC (thn (ha.run pos pins s σ H _ I h) fun us s1 hh => ?_) he hpl) hdb)⟩
  obtain ⟨vs, H1, I1, r1, v, rfl, q1⟩ := hh
  refine ⟨I1.kIn, ?_⟩
  obtain ⟨v', rfl, rv⟩ := r1.one
  show wpAny _ _ (call (.ref C) [v']) _ _ _
  have nl := I1.nolimit
  have room : X.A.depth + 1 < recursionLimit := by have := hr.dp; omega
  obtain ⟨hp, g, dr, tk, os⟩ := s1
  exact wpAny_call (PySem.LowM.low_made T I1.kIn nl room fun h' tk' e d M => made_val I1 M.keep M.new M.obj M.dbig M.dne M.ns (fun f => relO_lowM rv f) (q1 e d))

/-- Low(e), as a value -/
theorem pe_mkLowC {X : Cx} {C fI : Addr} {cn qn : Str} {a : Expr} {ta : TA} {p pos : Pos} {k : Nat} (T : PySem.LowC.LowTxt X.K X.mg cn qn C fI) (hr : Room k X.A) (ha : PA X [a] ta) (hg : Gl X cn) (hdb : (cn == ("__debug__" : Str)) = false := by decide)
    (he : starEach (a :: []) X.env = (false, eval a X.env) :: starEach [] X.env := by rfl) (hpl : (backTo pos (starEach [] X.env)).any (·.1) = false := by rfl) : PE X (.Call (.Name cn p) [a] [] pos) (tMkV "cut" C ta) := by
  refine ⟨fun pins s σ H Q I h => wpAny_Call_Name_kw (ld_glob I hg T.gC (PySem.W.callWith_K (h₀ := X.base) I.ok.mod.kin T.kC (thn (ha.run pos pins s σ H _ I h) fun us s1 hh => ?_) he hpl) hdb)⟩
  obtain ⟨vs, H1, I1, r1, v, rfl, q1⟩ := hh
  refine ⟨I1.kIn, ?_⟩
  obtain ⟨v', rfl, rv⟩ := r1.one
  show wpAny _ _ (call (.ref C) [v']) _ _ _
  have nl := I1.nolimit
  have room : X.A.depth + 1 < recursionLimit := by have := hr.dp; omega
  obtain ⟨hp, g, dr, tk, os⟩ := s1
  exact wpAny_call (PySem.LowC.low_made T I1.kIn nl room fun h' tk' e d M => made_val I1 M.keep M.new M.obj M.dbig M.dne M.ns (fun f => relO_lowC rv f) (q1 e d))
end RR
set_option maxHeartbeats 4000000
namespace RR
open PySem PySem.Spec PyProof.Rows L2
/-! ### data with dicts, shown -/
mutual
inductive Dq (K : PySem.W.Frag) (H : Hp) : V → PyData → Prop
  | non : Dq K H .non .none
  | bl (b : Bool) : Dq K H (.bl b) (.bool b)
  | int (i : Int) : Dq K H (.int i) (.int i)
  | str (x : Str) : Dq K H (.str x) (.str x)
  | lst {a : Addr} {xs : List V} {ds : List PyData} : a ≠ sysModules → H a = some (.lst xs) → DqAll K H xs ds → Dq K H (.ref a) (.list ds)
  | tup {a : Addr} {xs : List V} {ds : List PyData} : SqT K H a xs → DqAll K H xs ds → Dq K H (.ref a) (.tuple ds)
  | dic {a : Addr} {kvs : List (Key × V)} {es : List (PyData × PyData)} : H a = some (.dK kvs) → DqKV K H kvs es → Dq K H (.ref a) (.dict es)
inductive DqAll (K : PySem.W.Frag) (H : Hp) : List V → List PyData → Prop
  | nil : DqAll K H [] []
  | cons {v : V} {vs : List V} {d : PyData} {ds : List PyData} : Dq K H v d → DqAll K H vs ds → DqAll K H (v :: vs) (d :: ds)
inductive DqKV (K : PySem.W.Frag) (H : Hp) : List (Key × V) → List (PyData × PyData) → Prop
  | nil : DqKV K H [] []
  | cons {x : Str} {v : V} {r : List (Key × V)} {d : PyData} {es : List (PyData × PyData)} : Dq K H v d → DqKV K H r es → DqKV K H ((.inr x, v) :: r) ((.str x, d) :: es)
end
section
variable {X : Cx} {pins : List (Addr × Obj)} {σ : L2.St} {H : Hp} {s : Shared}
mutual
theorem Dq.reads (I : Inv X pins σ H s) : ∀ (d : PyData) (v : V) (u : Value), Dq X.K H v d → RelV v u → ∃ as, Reads s.heap u d as ∧ sysModules ∉ as
  | .none, _, _, h, r => by
    cases h
    cases r
    exact ⟨_, .none, by simp⟩
  | .bool b, _, _, h, r => by
    cases h
    cases r
    exact ⟨_, .bool b, by simp⟩
  | .int i, _, _, h, r => by
    cases h
    obtain ⟨t, rfl⟩ := r
    exact ⟨_, .int i t, by simp⟩
  | .str x, _, _, h, r => by
    cases h
    obtain ⟨t, rfl⟩ := r
    exact ⟨_, .str x t, by simp⟩
  | .list ds, _, _, h, r => by
    cases h with
    | lst am e ha =>
      cases r
      obtain ⟨_, its, n, rv, hg⟩ := (show ObjOk X.prog X.w H s.heap _ (.lst _) from I.hok _ _ e)
      obtain ⟨as, hr, hn⟩ := Dq.readsAll I ds _ its ha rv
      refine ⟨_, .list hg rfl rfl (by simpa using hr), fun z => ?_⟩
      rcases List.mem_cons.mp z with z | z
      · exact am z.symm
      · exact hn z
  | .tuple ds, _, _, h, r => by
    cases h with
    | tup hs ha =>
      cases r
      obtain ⟨its, rv, ⟨o, ho, hc, n, hd⟩, _⟩ := I.tuple hs
      obtain ⟨as, hr, hn⟩ := Dq.readsAll I ds _ its ha rv
      exact ⟨_, .tuple ho hc hd hr, hn⟩
  | .dict es, _, _, h, r => by
    cases h with
    | dic e ha =>
      cases r
      obtain ⟨_, hs, vs, kv, o, en, ep, hg, hx, hd, _, hp, _⟩ := (show ObjOk X.prog X.w H s.heap _ (.dK _) from I.hok _ _ e)
      obtain ⟨as, bs, h1, h2, n1, n2⟩ := Dq.readsKV I es _ vs en.toList ha kv hp
      refine ⟨_, .dict hg hx.1 hd h1 h2, fun z => ?_⟩
      rcases List.mem_append.mp z with z | z
      · rcases List.mem_cons.mp z with z | z
        · exact beq_eq_false_iff_ne.mp hs z.symm
        · exact n1 z
      · exact n2 z
theorem Dq.readsAll (I : Inv X pins σ H s) : ∀ (ds : List PyData) (vs : List V) (us : List Value), DqAll X.K H vs ds → Vals vs us → ∃ as, ReadsAll s.heap us ds as ∧ sysModules ∉ as
  | [], _, _, h, r => by
    cases h
    cases r
    exact ⟨_, .nil, by simp⟩
  | d :: ds, _, _, h, r => by
    cases h with
    | cons h1 h2 =>
      cases r with
      | cons r1 r2 =>
        obtain ⟨as, q1, m1⟩ := Dq.reads I d _ _ h1 r1
        obtain ⟨bs, q2, m2⟩ := Dq.readsAll I ds _ _ h2 r2
        refine ⟨_, .cons q1 q2, fun z => ?_⟩
        rcases List.mem_append.mp z with z | z
        · exact m1 z
        · exact m2 z
theorem Dq.readsKV (I : Inv X pins σ H s) : ∀ (es : List (PyData × PyData)) (kvs : List (Key × V)) (vs : List (Key × Value)) (en : List DictEntry), DqKV X.K H kvs es → KV kvs vs → Pairs (mixKind X.prog X.w) en vs →
      ∃ as bs, ReadsAll s.heap (en.map (·.key)) (es.map (·.1)) as ∧ ReadsAll s.heap (en.map (·.val)) (es.map (·.2)) bs ∧ sysModules ∉ as ∧ sysModules ∉ bs
  | [], _, _, _, h, r, p => by
    cases h
    cases r
    cases p
    exact ⟨_, _, .nil, .nil, by simp, by simp⟩
  | (_, d) :: es, _, _, _, h, r, p => by
    cases h with
    | cons h1 h2 =>
      cases r with
      | cons r1 r2 =>
        cases p with
        | cons p1 p2 p3 =>
          obtain ⟨e1, e2⟩ := r1
          rw [← e1] at p1
          have ks := keyIs_shape (show keyIs (.inr _) _ = true from p1)
          rcases ks with ⟨i, t, z, _⟩ | ⟨y, t, z, hk⟩
          · cases z
          · cases z
            obtain ⟨bs, q1, m1⟩ := Dq.reads I d _ _ h1 e2
            obtain ⟨as2, bs2, q2, q3, m2, m3⟩ := Dq.readsKV I es _ _ _ h2 r2 p3
            refine ⟨_, _, .cons (hk ▸ Reads.str _ t) q2, .cons (p2 ▸ q1) q3, ?_, ?_⟩
            · simpa using m2
            · intro z
              rcases List.mem_append.mp z with z | z
              · exact m1 z
              · exact m3 z
end
/-- data that may be shown, dicts too -/
structure ShowsQ (n m : Nat) (d : PyData) : Prop where
  sh : d.showable = true
  dp : d.depth ≤ m
  ln : d.shown.length ≤ n
/-- repr(x), x a list of such data -/
def rReprQ (K : PySem.W.Frag) (n : Nat) : List V → Hp → VK → Prop := fun xs H Q => ∃ a ys ds, xs = [.ref a] ∧ H a = some (.lst ys) ∧ DqAll K H ys ds ∧ ShowsQ n 20 (.list ds) ∧ Q (.str (PyData.list ds).shown) H
theorem call_reprQ {n : Nat} (hn : n ≤ sizeLine) (hu : X.A.units + 64 < cLine) (fr : Free X.A) : CallR X (.builtin "repr") (rReprQ X.K n) := by
  intro pins s σ H xs us Q I rv h
  obtain ⟨a, ys, ds, rfl, e, hd, hs, q⟩ := h
  obtain ⟨u, rfl, ru⟩ := rv.one
  obtain rfl : u = .ref a := ru
  obtain ⟨_, its, m, rI, hg⟩ := (show ObjOk X.prog X.w H s.heap a (.lst ys) from I.hok a _ e)
  obtain ⟨as, hr, hm⟩ := Dq.readsAll I ds _ its hd rI
  have dp : PyData.depthAll ds + 1 ≤ 20 := hs.dp
  have lz : (listText (PyData.shownAll ds)).length ≤ sizeLine := Nat.le_trans hs.ln hn
  have key : ∀ A : Around, A.guards = some [] → A.units + 63 < cLine → wpAny (model X.prog X.w) A (call (.builtin "list.__repr__") [.ref a]) (fun r s' => ∃ y, r = .str (PyData.list ds).shown y ∧ ∃ h' tk, s' = { s with heap := h', toks := tk } ∧ ∀ b o, s.heap.get? b = some o → h'.get? b = some o) X.xe s := by
    intro A gd au
    obtain ⟨bs, hb, hk⟩ := ReprAllK.of_readsAll (prog := X.prog) (w := X.w) hr hs.sh (fun _ => hm) (fun t ht => Nat.le_trans (listText_mem_le ht) lz)
    have top : Reads s.heap (.ref a) (.list ds) (a :: as) := .list hg rfl rfl (by simpa using hr)
    have na : a ∉ bs := not_mem_of_deeper top (by show PyData.depthAll ds < PyData.depthAll ds + 1; omega) hb
    cases its with
    | nil =>
      cases hr
      exact call_list_repr_empty ⟨_, hg, rfl⟩ hg rfl ⟨_, rfl, _, _, rfl, fun _ _ z => z⟩
    | cons x l => exact call_list_reprK hg rfl rfl na (by simpa using hk.length_eq) (fun i y z => hk.item i y (by simpa using z)) gd (fun b _ => Clear.nil b) (by omega) (fun _ _ z => z) (fun h' u tk k => ⟨u, rfl, h', tk, rfl, k⟩) lz
  refine call_repr_slot (by omega) (show s.TypeIs (.ref a) "list" from ⟨_, hg, rfl⟩) F.slot_list_repr.toG ?_
  refine wpAny_mono (key X.A.in1 fr (by show X.A.units + 1 + 63 < cLine; omega)) (fun r s' z => ?_) fun _ _ z => z
  obtain ⟨y, rfl, h', tk, rfl, k⟩ := z
  exact ⟨_, y, rfl, .str (PyData.list ds).shown, H, I.kept (t' := tk) k, ⟨y, rfl⟩, q⟩
end
/-- a list's display, its address told to be another one than the interpreter's dict -/
def tLstB (t : TA) : TE := fun σ H Q => t σ H fun xs H1 => xs.length ≤ sizeLine ∧ ∀ p, p ≠ sysModules → H1 p = none → Q (.ref p) (upd H1 p (.lst xs))
theorem pe_lstB {X : Cx} {es : List Expr} {t : TA} {pos : Pos} (h : PA X es t) : PE X (.List es pos) (tLstB t) := by
  refine ⟨fun pins s σ H Q I hq => wpAny_List_spliced (thn (h.run pos pins s σ H _ I hq) fun us s1 hh => ?_)⟩
  obtain ⟨xs, H1, I1, r, z, q⟩ := hh
  have hf : H1 s1.heap.objs.size = none := I1.hok.fresh (Nat.le_refl _)
  have hm : s1.heap.objs.size ≠ sysModules := Nat.ne_of_gt I1.big
  exact ⟨by rw [← r.length]; exact z, .ref s1.heap.objs.size, _, I1.laid (o := .lst xs) (t' := s1.toks) (fun b u e => Heap.get?_push_of_some _ e) (Nat.le_refl _) ⟨z, us, 0, r, Heap.get?_push_size _ rfl⟩, rfl, q _ hm hf⟩
end RR
set_option maxHeartbeats 4000000
namespace RR
open PySem PySem.Spec PyProof.Rows L2
/-! ### a field of an error, its dict looked through -/
def tAtQ (K : PySem.W.Frag) (f : Str) (te : TE) : TE := fun σ H Q => te σ H fun x H1 => ∃ (a D dd : Addr) (fs : List (Str × V)) (v : V), x = .ref a ∧ ExcC K D ∧ PySem.W.findIn K (.ref D) f = some none ∧ H1 a = some (HeldX (.ref D) (some dd) a) ∧ H1 dd = some (.xd fs) ∧ List.lookup f fs = some v ∧ Q v H1
theorem pe_atQ {X : Cx} {f : Str} {e : Expr} {te : TE} {pos : Pos} (he : PE X e te) (hb : attributeBase e f X.env (eval e X.env) = eval e X.env := by rfl) : PE X (.Attribute e f pos) (tAtQ X.K f te) := by
  refine ⟨fun pins s σ H Q I h => attr_of hb (thn (he.run pins s σ H _ I h) fun u s1 hh => ?_)⟩
  obtain ⟨x, H1, I1, rx, a, D, dd, fs, v, rfl, T, hno, ha, hd, l, q⟩ := hh
  obtain rfl : u = Value.ref a := rx
  obtain ⟨⟨oe, oa, hz, vs, hdt⟩, _, _⟩ := I1.hok a _ ha
  obtain ⟨mA, hns, hr⟩ := (show ObjOk X.prog X.w H1 s1.heap dd (.xd fs) from I1.hok dd _ hd)
  obtain ⟨od, ho, hl⟩ := lookIn_ns hns
  obtain ⟨u, hu, ru⟩ := RelO.some_of (v := v) (o := mA f) (by rw [← l]; exact hr f)
  have J : PySem.W.InstAt s1.heap a oe D (some od) := ⟨oa, hz.1, by unfold PySem.W.notCls; rw [hdt] <;> rfl, by rw [hz.2]; exact ho⟩
  exact HandSPX.exc_get I1.kIn J T.hg T.hk T.hs (PySem.W.findObj_own T.hd hno rfl (by rw [hl, hu])) (handed_of ru) ⟨v, H1, I1.tok _, ru, q⟩
/-- an error of an own class without own __init__, made without fields, as a value -/
def tMk0V (C : Addr) : TE := fun σ H Q => ∀ a, H a = none → Q (.ref a) (upd H a (HeldX (.ref C) none a))
theorem pe_mk0 {X : Cx} {C : Addr} {bmB : List Value} {B newId initId : String} {x : Str} {p pos : Pos} (F : ExcBaseFacts B newId initId bmB) (q : PySem.W.excIn X.K C bmB newId = true) (gC : X.mg x = some (.ref C)) (kC : PySem.W.keepIn X.K (.ref C) = true) (hg : Gl X x)
    (hdb : (x == ("__debug__" : Str)) = false := by decide) : PE X (.Call (.Name x p) [] [] pos) (tMk0V C) := by
  refine ⟨fun pins s σ H Q I h => wpAny_Call_Name_kw (ld_glob I hg gC (PySem.W.callWith_K0 I.kIn kC ?_) hdb)⟩
  show wpAny _ _ (call (.ref C) []) _ _ _
  obtain ⟨bm, N, nm, qn, bs, hdct, sn, sub, ab, col, dd, k0, k1, k2, k3, k5, mN, hC, hN, hni, T⟩ := exc_obj I.kIn q
  refine wpAny_call_exc_subT F T hC hN hni (fun h' e hm => ?_) (by show 0 ≤ sizeLine; rw [sizeLine_eq]; omega)
  obtain ⟨t, he, _, _⟩ := hm.there
  have ne : H e = none := I.hok.gone hm.new
  exact ⟨.ref e, _, I.laidN (o := HeldX (.ref C) none e) (t' := s.toks) hm.keeps hm.new ne ⟨⟨_, he, ⟨rfl, rfl⟩, _, rfl⟩, ⟨_, he⟩, fun _ _ ⟨u, z1, z2⟩ k => ⟨u, k u z1, z2⟩⟩, rfl, h e ne⟩
end RR
namespace PySem
namespace LowW
open PySem.W PySem.Calls PyProof.Rows PySem.HandSPX Builtin Builtin.ObjectAttr
/-! ### an error with the fields way and cut -/
section
variable {prog : Program} {w : World} {A : Around} {E : Value → Shared → Prop} {R : Result → Shared → Prop} {hp : Heap} {g : Array GenState} {d : Drawn} {t : Nat} {os : OsState}
theorem store_more {M : Model} {dx : Addr} {name f0 : Str} {tk : Tok} {v v0 : Value} {Q : Fin → Shared → Prop} (hnd : hp.Ns1 dx (fun y => if y = f0 then some v0 else none))
    (hq : ∀ h' tk', h'.Ns1 dx (fun y => if y = name then some v else if y = f0 then some v0 else none) → Heap.SameBut dx hp h' → Q (.done (.ret .none)) ⟨h', g, d, tk', os⟩) :
    wpAny M A (storeInDict dx (.str name tk) name v) Q E ⟨hp, g, d, t, os⟩ := by
  unfold storeInDict newKeyGuard
  refine wpAny_bind (wpAny_pure (wpAny_bind (wpAny_nsSet1 hnd fun h1 n1 s1 => ?_)))
  obtain ⟨ob, es, ep, ho, hd, hc⟩ := n1.count (Within.cons name v (Within.cons f0 v0 Within.nil))
  have few : es.size ≤ sizeLine + 1 := Nat.le_trans hc (by show 2 ≤ _; rw [sizeLine_eq]; decide)
  refine wpAny_bind (wpAny_lookBehind ho (by rw [hd]; exact pastItsLine_dict few) ?_)
  wp_walk
  exact hq h1 _ n1 s1
theorem exc_osa2 {K : Frag} {name f0 : Str} {tk : Tok} {v v0 : Value} {x C dx : Addr} {fv : Array Value} {cd : ClassData} (X : K.In hp) (hx : hp.get? x = some { cls := .ref C, dict := some dx, data := .fields fv }) (hnd : hp.Ns1 dx (fun y => if y = f0 then some v0 else none))
    (hcd : clsIn K C = some cd) (hm : refsVE cd.mro = true) (hh : cd.hasDict = true) (ha : findIn K (.ref C) name = some none)
    (hq : ∀ h' tk', h'.Ns1 dx (fun y => if y = name then some v else if y = f0 then some v0 else none) → Heap.SameBut dx hp h' → R (.ok (.ret .none)) ⟨h', g, d, tk', os⟩) :
    codeAny (model prog w) A (.call (.builtin "object.__setattr__") ⟨[.ref x, .str name tk, v], []⟩) R ⟨hp, g, d, t, os⟩ := by
  obtain ⟨od, edx, _⟩ := L2.lookIn_ns hnd
  have I : InstAt hp x { cls := .ref C, dict := some dx, data := .fields fv } C (some od) := ⟨hx, rfl, rfl, edx⟩
  have SF := F.store_object
  have ne := refsVE_ne hm
  have hob : cd.mro.contains (.type "object") = true := (refsVE_contains "object" _ hm).trans (by decide +kernel)
  have sub : Looks (model prog w) hp (isInstance (.ref x) (.type "object")) true := I.type.andThen (looks_mroIn X (by unfold mroIn; rw [hcd, Option.bind_some, if_neg (by rw [ne]; decide), hob]))
  refine codeAny_call_builtin SF.slot.plain SF.entry (@check_slot (model prog w) _ _ ⟨hp, g, d, t, os⟩ "object.__setattr__" "object" "__setattr__" (.ref x) [.str name tk, v] [] _ SF.kind SF.split sub (SF.args (.ref x) (.str name tk) v) ?_)
  have mr : Looks (model prog w) hp (mroOf (.ref C)) cd.mro := (looks_clsIn X hcd).andThen .now
  have st : Looks (model prog w) hp (storeTaker? none) none := .now
  have cl : Looks (model prog w) hp (classData C) cd := looks_clsIn X hcd
  rw [osa_eq, refuse_eq]
  refine wpAny_bind (wpAny_bind (I.type.at (wpAny_bind (mr.at ?_))))
  rw [refsVE_pass _ _ hm]
  refine wpAny_pure (wpAny_bind (I.type.at (wpAny_bind ((looks_findIn X ha).at (wpAny_bind (st.at ?_))))))
  show wpAny _ _ (storeInOwnDict (.ref x) (.ref C) (.str name tk) name v false) _ _ _
  obtain ⟨nm, bs, mro, ns, qn, hdd, sn, sb, ab, col, del⟩ := cd
  dsimp only at hh
  subst hh
  unfold storeInOwnDict ownDictForStores
  repeat (first | with_reducible refine store_more hnd ?_ | with_reducible refine wpAny_loadPart_at hx ?_ | with_reducible refine cl.at ?_ | wp_step)
  exact fun h' tk' n s => hq h' tk' n s
end
end LowW
end PySem
-- LOWW
namespace PySem
namespace LowW
open PySem.W PySem.Calls PyProof.Rows PySem.HandSPX
/-! ### the text of __init__ -/
def iA (p1 p2 p3 : Pos) : Arguments := { posonlyargs := [], args := [{ arg := "self", annotation := none, pos := p1 }, { arg := "way", annotation := none, pos := p2 }, { arg := "cut", annotation := none, pos := p3 }], vararg := none, kwonlyargs := [], kw_defaults := [], kwarg := none, defaults := [] }
def iB (q1 q2 q3 q4 r1 r2 r3 r4 : Pos) : List Stmt := [.Assign [.Attribute (.Name "self" q1) "way" q2] (.Name "way" q3) q4, .Assign [.Attribute (.Name "self" r1) "cut" r2] (.Name "cut" r3) r4]
def iS : Scope := { kind := .function, names := [(PySem.Str.ofString "self", .local), (PySem.Str.ofString "way", .local), (PySem.Str.ofString "cut", .local)], isGenerator := false, isCoroutine := false, more := [] }
/-- what the written part says of Low, at C, and of its __init__, at fI -/
structure LowTxt (K : Frag) (mg : Str → Option Value) (cn qn : Str) (C fI : Addr) : Prop where
  gC : mg cn = some (.ref C)
  cls : ∃ nm q N bs bm sn sub ab col dd k0 k1 k2 k3 k5, K.lookup C = some (excClassObj nm q C N bs bm true sn sub ab col dd k0 k1 k2 k3 k5 "ValueError.__new__") ∧ refsVE bm = true
  sa : findIn K (.ref C) "__setattr__" = some (some (.builtin "object.__setattr__"))
  ga : findIn K (.ref C) "__getattribute__" = some (some (.builtin "BaseException.__getattribute__"))
  gg : findIn K (.ref C) "__getattr__" = some none
  noN : findIn K (.ref C) "way" = some none
  noM : findIn K (.ref C) "cut" = some none
  iC : findIn K (.ref C) "__init__" = some (some (.ref fI))
  tC : typeIn K (.ref fI) = some (.type "function")
  kC : keepIn K (.ref C) = true
  exC : subIn K (.ref C) (.type "BaseException") = some true
  tyC : typeIn K (.ref C) = some (.type "type")
  hdC : hasDictIn K C = true
  te : exmOne K (.ref C) (.ref C) = some true
  fn : ∃ (oc : Value) (od : Option Addr) (doc pm : Value) (an : Option Addr) (cdv ct : Value) (osl : Array (Option Value)) (p1 p2 p3 q1 q2 q3 q4 r1 r2 r3 r4 : Pos),
    K.lookup fI = some ⟨oc, od, .func (fnOf "__init__" qn (iA p1 p2 p3) (iB q1 q2 q3 q4 r1 r2 r3 r4) iS .none .none doc pm an cdv ct), osl⟩ ∧ codeIn K cdv qn = true
theorem one_size (v u : Value) : [v, u].length ≤ sizeLine := by
  rw [sizeLine_eq]
  exact (by decide : 2 ≤ 16777216)
theorem kept_but {K : Frag} {h h' : Heap} {x : Addr} (X : K.In h) (hx : K.lookup x = none) (k : ∀ b o, b ≠ x → h.get? b = some o → h'.get? b = some o) : K.In h' := fun a o e =>
  k a o (fun z => by rw [z, hx] at e; cases e) (X a o e)
theorem ldC {M : Model} {s : Shared} {name : Str} {scope : Scope} {L a : Addr} {cd : Value} {m : Str → Option Value} {x : Str} {pos : Pos} {v : Value} {Q : Value → Shared → Prop} {A : Around} {E : Value → Shared → Prop} (hn : s.heap.Ns L m) (hv : m x = some v) (h : Q v s)
    (hk : scope.kind = .function := by rfl) (hl : (envOfC name scope L a cd).kindOf x = some .local := by rfl) (hd : (x == ("__debug__" : Str)) = false := by decide) :
    wpAny M A (eval (.Name x pos) (envOfC name scope L a cd)) Q E s := wpAny_Name (wpAny_loadName_local hk hl hn hv h) hd
theorem ns_but {h h' : Heap} {L x : Addr} {m : Str → Option Value} (n : h.Ns L m) (ne : L ≠ x) (k : ∀ b o, b ≠ x → h.get? b = some o → h'.get? b = some o) : h'.Ns L m := by
  obtain ⟨ob, es, ep, e, r⟩ := n
  exact ⟨ob, es, ep, k _ _ ne e, r⟩
/-- what __init__ leaves of a fresh exception at x -/
structure InitEnd (h h' : Heap) (x C dx t1 : Addr) (v u : Value) : Prop where
  keep : ∀ b o, b ≠ x → h.get? b = some o → h'.get? b = some o
  obj : h'.get? x = some { cls := .ref C, dict := some dx, data := .fields #[.ref t1, .none, .none, .none, .bool false, .none] }
  dbig : h.objs.size ≤ dx
  dne : dx ≠ x
  ns : h'.Ns1 dx (fun y => if y = "cut" then some u else if y = "way" then some v else none)
/-- a made Low -/
structure OwnMade (h h' : Heap) (e C d : Addr) (v u : Value) : Prop where
  keep : ∀ b o, h.get? b = some o → h'.get? b = some o
  new : h.objs.size ≤ e
  obj : ∃ oe vs, h'.get? e = some oe ∧ oe.cls = .ref C ∧ oe.dict = some d ∧ oe.data = .fields vs ∧ vs[1]? = some .none
  dbig : h.objs.size ≤ d
  dne : d ≠ e
  ns : h'.Ns1 d (fun y => if y = "cut" then some u else if y = "way" then some v else none)
section
variable {prog : Program} {w : World} {A : Around} {E : Value → Shared → Prop} {R : Result → Shared → Prop} {s : Shared} {K : Frag} {mg : Str → Option Value} {C fI : Addr} {cn qn : Str}
theorem low_init (T : LowTxt K mg cn qn C fI) {x t0 : Addr} {v u : Value} (X : K.In s.heap) (hlim : s.heap.NoLimit) (hx : s.heap.get? x = some (excO C t0)) (hnx : K.lookup x = none) (hroom : A.depth < recursionLimit)
    (hq : ∀ h' tk dx, InitEnd s.heap h' x C dx t0 v u → R (.ok (.ret .none)) { s with heap := h', toks := tk }) :
    codeAny (model prog w) A (.call (.ref fI) ⟨[.ref x, v, u], []⟩) R s := by
  obtain ⟨oc, od, doc, pm, an, cdv, ct, osl, p1, p2, p3, q1, q2, q3, q4, r1, r2, r3, r4, ho, hcd⟩ := T.fn
  obtain ⟨nm, q, N, bs, bm, sn, sub, ab, col, dd, k0, k1, k2, k3, k5, hC, hbm⟩ := T.cls
  have hcl : clsIn K C = some { name := nm, bases := bs, mro := .ref C :: bm, ns := N, qualname := q, hasDict := true, slotNames := sn, subclasses := sub, abstract := ab, collection := col, hasDel := false } := by unfold clsIn; rw [hC] <;> rfl
  refine Att.call_fn (binds := [("self", .ref x), ("way", v), ("cut", u)]) X hlim ho hcd hroom (BindsTo.of_eq (by first | rfl | with_unfolding_all rfl)) (by first | rfl | decide | with_unfolding_all rfl) (fun s₁ IC => ?_) rfl rfl rfl
  obtain ⟨h₁, tk₁, rfl⟩ := IC.toInCall.same
  have k : ∀ b o, s.heap.get? b = some o → h₁.get? b = some o := IC.toInCall.keep
  have hn := IC.toInCall.ns
  have hxL : s.heap.objs.size ≠ x := Nat.ne_of_gt (Heap.lt_size hx)
  have X₁ : K.In h₁ := X.keeps k
  have hx₁ := k _ _ hx
  -- self.by = by
  show wpAny _ _ (execs _ _) _ _ _
  refine wpAny_execs_cons (plainObj_wpAny_Assign_Attribute ?_)
  refine ldC (v := v) hn (by first | rfl | with_unfolding_all rfl | kernel_rfl) (ldC (v := .ref x) hn (by first | rfl | with_unfolding_all rfl | kernel_rfl) ?_)
  refine set_plain X₁ (ox := excO C t0) (od := none) ⟨hx₁, rfl, rfl, trivial⟩ T.sa ?_
  refine exc_osa X₁ hx₁ hcl (show refsVE (.ref C :: bm) = true from hbm) rfl T.noN (fun h₃ tk₃ dx k₃ dn dne hx₃ hn₃ => ?_)
  show wpAny _ _ (execs _ _) _ _ _
  have z : s.heap.objs.size < h₁.objs.size := hn.lt
  have n3 := ns_but hn hxL k₃
  have X₃ : K.In h₃ := kept_but X₁ hnx k₃
  obtain ⟨ob3, ed3, _⟩ := L2.lookIn_ns hn₃
  refine wpAny_execs_cons (plainObj_wpAny_Assign_Attribute ?_)
  refine ldC (v := u) n3 (by first | rfl | with_unfolding_all rfl | kernel_rfl) (ldC (v := .ref x) n3 (by first | rfl | with_unfolding_all rfl | kernel_rfl) ?_)
  refine set_plain X₃ (od := some ob3) ⟨hx₃, rfl, rfl, ed3⟩ T.sa ?_
  refine exc_osa2 X₃ hx₃ hn₃ hcl (show refsVE (.ref C :: bm) = true from hbm) rfl T.noM (fun h4 tk4 n4 s4 => ?_)
  show wpAny _ _ (execs _ _) _ _ _
  have big : s.heap.objs.size ≤ dx := Nat.le_of_lt (Nat.lt_of_lt_of_le z dn)
  exact wpAny_execs_nil (hq h4 tk4 dx ⟨fun b o hb e => (s4.2 b (Nat.ne_of_lt (Nat.lt_of_lt_of_le (Heap.lt_size e) big))).trans (k₃ b o hb (k b o e)), (s4.2 x dne.symm).trans hx₃, big, dne, n4⟩)
theorem low_made (T : LowTxt K mg cn qn C fI) {v u : Value} (X : K.In s.heap) (hlim : s.heap.NoLimit) (hroom : A.depth + 1 < recursionLimit)
    (hq : ∀ h' tk e d, OwnMade s.heap h' e C d v u → R (.ok (.ret (.ref e))) { s with heap := h', toks := tk }) :
    codeAny (model prog w) A (.call (.ref C) ⟨[v, u], []⟩) R s := by
  obtain ⟨nm, q, N, bs, bm, sn, sub, ab, col, dd, k0, k1, k2, k3, k5, hC, hbm⟩ := T.cls
  obtain ⟨hp, g, dr, tk, os⟩ := s
  have k : ∀ b o, hp.get? b = some o → ((hp.push (kdv_tup [v, u])).push (excO C hp.objs.size)).get? b = some o := fun b o e => Heap.get?_push_of_some _ (Heap.get?_push_of_some _ e)
  have hget : ((hp.push (kdv_tup [v, u])).push (excO C hp.objs.size)).get? (hp.objs.size + 1) = some (excO C hp.objs.size) := by heap_get
  have hnx : K.lookup (hp.objs.size + 1) = none := by
    cases e : K.lookup (hp.objs.size + 1) with
    | none => rfl
    | some o =>
      have z : hp.get? (hp.objs.size + 1) = some o := X _ _ e
      exact absurd (Nat.lt_of_succ_lt (Heap.lt_size z)) (Nat.lt_irrefl _)
  refine call_own F.excBase_ValueError (fun X => refsVE_contains X bm hbm) (X _ _ hC) (looks_findIn X T.iC) (fun self => bind_fn X self T.tC) (one_size v u) ?_
  refine low_init (s := ⟨(hp.push (kdv_tup [v, u])).push (excO C hp.objs.size), g, dr, tk, os⟩) T (X.keeps k) (hlim.keeps k) hget hnx ?_ fun h' tk' dx ⟨k', hx, dn, dne, hns⟩ => ?_
  · show A.depth + 1 < recursionLimit
    exact hroom
  · have old : ∀ b o, hp.get? b = some o → h'.get? b = some o := fun b o e => k' b o (Nat.ne_of_lt (Nat.lt_succ_of_lt (Heap.lt_size e))) (k b o e)
    have z : hp.objs.size + 1 + 1 ≤ dx := by
      first
        | (simpa only [Heap.size_push] using dn)
        | exact dn
        | (have q := dn; rw [Heap.size_push, Heap.size_push] at q; exact q)
    exact ⟨rfl, hq h' tk' (hp.objs.size + 1) dx ⟨old, Nat.le_succ _, ⟨_, _, hx, rfl, rfl, rfl, rfl⟩, Nat.le_trans (Nat.le_trans (Nat.le_succ _) (Nat.le_succ _)) z, dne, hns⟩⟩
end
end LowW
end PySem
namespace RR
open PySem PySem.Spec PyProof.Rows L2
theorem relO_way {v u : V} {v' u' : Value} (r : RelV v v') (q : RelV u u') (f : Str) : RelO (List.lookup f [(("way" : Str), v), (("cut" : Str), u)]) (if f = "cut" then some u' else if f = "way" then some v' else none) := by
  by_cases hw : f = "way"
  · subst hw
    rw [if_neg (by decide), if_pos rfl, show List.lookup ("way" : Str) [(("way" : Str), v), (("cut" : Str), u)] = some v from by simp [List.lookup]]
    exact r
  · by_cases hc : f = "cut"
    · subst hc
      rw [if_pos rfl, show List.lookup ("cut" : Str) [(("way" : Str), v), (("cut" : Str), u)] = some u from rfl]
      exact q
    · rw [if_neg hc, if_neg hw]
      have q1 : (f == ("way" : Str)) = false := by simpa using hw
      have q2 : (f == ("cut" : Str)) = false := by simpa using hc
      rw [show List.lookup f [(("way" : Str), v), (("cut" : Str), u)] = none from by simp [List.lookup, q1, q2]]
      trivial
/-- a new error of C with the fields way and cut -/
def tMkW (C : Addr) (ta : TA) : TE := fun σ H Q => ta σ H fun vs H1 => ∃ v u, vs = [v, u] ∧ ∀ a dd, H1 dd = none → H1 a = none → dd ≠ a → Q (.ref a) (upd (upd H1 dd (.xd [(("way" : Str), v), (("cut" : Str), u)])) a (HeldX (.ref C) (some dd) a))
theorem pe_mkW {X : Cx} {C fI : Addr} {cn qn : Str} {a b : Expr} {ta : TA} {p pos : Pos} {k : Nat} (T : PySem.LowW.LowTxt X.K X.mg cn qn C fI) (hr : Room k X.A) (ha : PA X [a, b] ta) (hg : Gl X cn) (hdb : (cn == ("__debug__" : Str)) = false := by decide)
    (he : starEach (a :: [b]) X.env = (false, eval a X.env) :: starEach [b] X.env := by rfl) (hpl : (backTo pos (starEach [b] X.env)).any (·.1) = false := by rfl) : PE X (.Call (.Name cn p) [a, b] [] pos) (tMkW C ta) := by
  refine ⟨fun pins s σ H Q I h => wpAny_Call_Name_kw (ld_glob I hg T.gC (PySem.W.callWith_K (h₀ := X.base) I.ok.mod.kin T.kC (thn (ha.run pos pins s σ H _ I h) fun us s1 hh => ?_) he hpl) hdb)⟩
  obtain ⟨vs, H1, I1, r1, v, u, rfl, q1⟩ := hh
  refine ⟨I1.kIn, ?_⟩
  cases r1 with
  | cons rv rn =>
    rename_i v' _
    obtain ⟨u', rfl, ru⟩ := (show Vals [u] _ from rn).one
    show wpAny _ _ (call (.ref C) [v', u']) _ _ _
    have nl := I1.nolimit
    have room : X.A.depth + 1 < recursionLimit := by have := hr.dp; omega
    obtain ⟨hp, g, dr, tk, os⟩ := s1
    exact wpAny_call (PySem.LowW.low_made T I1.kIn nl room fun h' tk' e d M => made_val I1 M.keep M.new M.obj M.dbig M.dne M.ns (fun f => relO_way rv ru f) (q1 e d))
end RR
set_option maxHeartbeats 4000000
namespace RR
open PySem PySem.Spec PyProof.Rows L2
/-! ### errors told apart -/
/-- what isinstance says of the i-th class of cs, W the base of them all -/
structure MarkOf (K : PySem.W.Frag) (D : Addr) (i : Nat) (cs : List Addr) (W : Addr) : Prop where
  ex : ExcC K D
  ks : ∀ (j : Nat) (C : Addr), cs[j]? = some C → PySem.W.kitOne K (.ref D) (.ref C) = some (decide (i = j))
  we : PySem.W.kitOne K (.ref D) (.ref W) = some true
  ve : PySem.W.kitOne K (.ref D) (.type "ValueError") = some true
/-- an error of the k-th class -/
def ErrK (K : PySem.W.Frag) (cs : List Addr) (W : Addr) (H : Hp) (a : Addr) (k : Nat) : Prop := ∃ D d, MarkOf K D k cs W ∧ H a = some (HeldX (.ref D) d a) ∧ (d = none ∨ ∃ dd fs, d = some dd ∧ H dd = some (.xd fs))
/-- one with the fields fs -/
def ErrF (K : PySem.W.Frag) (cs : List Addr) (W : Addr) (H : Hp) (a : Addr) (k : Nat) (fs : List (Str × V)) : Prop :=
  ∃ D dd, MarkOf K D k cs W ∧ H a = some (HeldX (.ref D) (some dd) a) ∧ H dd = some (.xd fs) ∧ ∀ f v, List.lookup f fs = some v → PySem.W.findIn K (.ref D) f = some none
section
variable {K : PySem.W.Frag} {cs : List Addr} {W : Addr} {H H' : Hp} {a : Addr} {k : Nat} {fs : List (Str × V)}
theorem ErrK.same (h : ErrK K cs W H a k) (s : Same H H') : ErrK K cs W H' a k := by
  obtain ⟨D, d, M, e, r⟩ := h
  refine ⟨D, d, M, s _ _ e, ?_⟩
  rcases r with r | ⟨dd, fs, r, x⟩
  · exact .inl r
  · exact .inr ⟨dd, fs, r, s _ _ x⟩
theorem ErrF.same (h : ErrF K cs W H a k fs) (s : Same H H') : ErrF K cs W H' a k fs := by
  obtain ⟨D, dd, M, e, x, n⟩ := h
  exact ⟨D, dd, M, s _ _ e, s _ _ x, n⟩
theorem ErrF.toK (h : ErrF K cs W H a k fs) : ErrK K cs W H a k := by
  obtain ⟨D, dd, M, e, x, _⟩ := h
  exact ⟨D, some dd, M, e, .inr ⟨dd, fs, rfl, x⟩⟩
theorem err_new {D dd : Addr} (M : MarkOf K D k cs W) (nf : ∀ f v, List.lookup f fs = some v → PySem.W.findIn K (.ref D) f = some none) (nd : H dd = none) (na : H a = none) (ne : dd ≠ a) :
    ∃ G, G = upd (upd H dd (.xd fs)) a (HeldX (.ref D) (some dd) a) ∧ Same H G ∧ ErrF K cs W G a k fs := by
  have na2 : upd H dd (.xd fs) a = none := (upd_ne ne.symm).trans na
  exact ⟨_, rfl, (Same.new nd).trans (Same.new na2), D, dd, M, upd_same, hp_new upd_same na2, nf⟩
theorem err_new0 {D : Addr} (M : MarkOf K D k cs W) (na : H a = none) : ErrK K cs W (upd H a (HeldX (.ref D) none a)) a k := ⟨D, none, M, upd_same, .inl rfl⟩
theorem one_fld {f : Str} {v : V} {D : Addr} (h : PySem.W.findIn K (.ref D) f = some none) : ∀ g u, List.lookup g [(f, v)] = some u → PySem.W.findIn K (.ref D) g = some none := by
  intro g u e
  by_cases z : g = f
  · rw [z]
    exact h
  · have q : (g == f) = false := by simpa using z
    simp [List.lookup, q] at e
theorem two_flds {f1 f2 : Str} {v1 v2 : V} {D : Addr} (h1 : PySem.W.findIn K (.ref D) f1 = some none) (h2 : PySem.W.findIn K (.ref D) f2 = some none) : ∀ g u, List.lookup g [(f1, v1), (f2, v2)] = some u → PySem.W.findIn K (.ref D) g = some none := by
  intro g u e
  by_cases z : g = f1
  · rw [z]
    exact h1
  · have q : (g == f1) = false := by simpa using z
    by_cases y : g = f2
    · rw [y]
      exact h2
    · have q2 : (g == f2) = false := by simpa using y
      simp [List.lookup, q, q2] at e
end
/-! ### data, kept -/
theorem sqT_same {K : PySem.W.Frag} {H H' : Hp} {a : Addr} {xs : List V} (h : SqT K H a xs) (s : Same H H') : SqT K H' a xs := by
  rcases h with (h | ⟨o, h⟩) | h
  · exact .inl (.inl (s _ _ h))
  · exact .inl (.inr ⟨o, s _ _ h⟩)
  · exact .inr h
mutual
theorem Dq.same {K : PySem.W.Frag} {H H' : Hp} (s : Same H H') : ∀ {d : PyData} {v : V}, Dq K H v d → Dq K H' v d
  | _, _, .non => .non
  | _, _, .bl b => .bl b
  | _, _, .int i => .int i
  | _, _, .str x => .str x
  | _, _, .lst m e h => .lst m (s _ _ e) (DqAll.same s h)
  | _, _, .tup e h => .tup (sqT_same e s) (DqAll.same s h)
  | _, _, .dic e h => .dic (s _ _ e) (DqKV.same s h)
theorem DqAll.same {K : PySem.W.Frag} {H H' : Hp} (s : Same H H') : ∀ {ds : List PyData} {vs : List V}, DqAll K H vs ds → DqAll K H' vs ds
  | _, _, .nil => .nil
  | _, _, .cons h t => .cons (Dq.same s h) (DqAll.same s t)
theorem DqKV.same {K : PySem.W.Frag} {H H' : Hp} (s : Same H H') : ∀ {es : List (PyData × PyData)} {kvs : List (Key × V)}, DqKV K H kvs es → DqKV K H' kvs es
  | _, _, .nil => .nil
  | _, _, .cons h t => .cons (Dq.same s h) (DqKV.same s t)
end
theorem del_same {H H' : Hp} {p : Addr} (k : Keep p H H') : Same (delH H p) (delH H' p) := fun b o e => by
  unfold delH at e ⊢
  split at e
  · cases e
  · rename_i n
    rw [if_neg n]
    exact k b o e n
theorem del_sub {H : Hp} {p : Addr} : Same (delH H p) H := fun b o e => by
  unfold delH at e
  split at e
  · cases e
  · exact e
theorem del_at {H : Hp} {p b : Addr} {o : HO} (e : H b = some o) (n : b ≠ p) : delH H p b = some o := (delH_ne n).trans e
inductive ShowsAllQ (n m : Nat) : List PyData → Prop
  | nil : ShowsAllQ n m []
  | cons {d : PyData} {ds : List PyData} : ShowsQ n m d → ShowsAllQ n m ds → ShowsAllQ n m (d :: ds)
theorem ShowsAllQ.all {n m : Nat} : ∀ {ds : List PyData}, ShowsAllQ n m ds → PyData.showableAll ds = true ∧ PyData.depthAll ds ≤ m ∧ ((PyData.shownAll ds).map (·.length)).sum ≤ ds.length * n ∧ (PyData.shownAll ds).length = ds.length
  | _, .nil => ⟨rfl, Nat.zero_le _, Nat.zero_le _, rfl⟩
  | _, .cons (d := d) (ds := ds) h t => by
    obtain ⟨a, c, e, f⟩ := t.all
    refine ⟨?_, ?_, ?_, ?_⟩
    · show (d.showable && PyData.showableAll ds) = true
      rw [h.sh, a]; rfl
    · show max d.depth (PyData.depthAll ds) ≤ m
      have := h.dp
      omega
    · show d.shown.length + ((PyData.shownAll ds).map (·.length)).sum ≤ (ds.length + 1) * n
      have := h.ln
      rw [Nat.add_mul]
      omega
    · show (PyData.shownAll ds).length + 1 = ds.length + 1
      rw [f]
theorem showsQ_list {n m k l : Nat} {ds : List PyData} (h : ShowsAllQ n m ds) (hl : ds.length * n + 2 * ds.length + 3 ≤ k) (hm : m + 1 ≤ l) : ShowsQ k l (.list ds) := by
  obtain ⟨a, c, e, f⟩ := h.all
  refine ⟨a, ?_, ?_⟩
  · show PyData.depthAll ds + 1 ≤ l
    omega
  · show (listText (PyData.shownAll ds)).length ≤ k
    have := listText_len_le (PyData.shownAll ds)
    rw [f] at this
    omega
/-- a drawn value, apart from the pen -/
def Val (K : PySem.W.Frag) (H : Hp) (v : V) : Prop := ∃ d, Dq K H v d ∧ ShowsQ 100 3 d
theorem Val.same {K : PySem.W.Frag} {H H' : Hp} {v : V} (h : Val K H v) (s : Same H H') : Val K H' v := h.elim fun d q => ⟨d, q.1.same s, q.2⟩
theorem cat_step {H G : Hp} {q : Addr} {o : HO} (s : Same H G) (n : G q = none) : Same H (upd G q o) ∧ upd G q o q = some o := ⟨s.trans (Same.new n), upd_same⟩
/-! ### promises of the law's defs -/
def marksL (i : Nat) : List V := (List.range 18).map fun j => .bl (decide (i = j))
def spMarks (K : PySem.W.Frag) (cs : List Addr) (W : Addr) : Sp := fun vs H Q _ => ∃ a i, vs = [.ref a] ∧ ErrK K cs W H a i ∧ ∀ q H', Same H H' → H' q = some (.lst (marksL i)) → Q (.ref q) H'
def spAloneE (K : PySem.W.Frag) (cs : List Addr) (W : Addr) : Sp := fun vs H Q _ => ∃ (a : Addr) (i : Nat), vs = [.ref a, .int (i : Int)] ∧ i < 18 ∧ ErrK K cs W H a i ∧ ∀ H', Same H H' → Q (.bl true) H'
def spValue (K : PySem.W.Frag) : Sp := fun vs H Q _ => ∃ p c ns a g, vs = [.ref p] ∧ PenAt H p c ns a g ∧ a ≤ 99000 ∧ ∀ v a' g' H', H' p = some (pen c a' g') → Keep p H H' → Val K (delH H' p) v → a ≤ a' → a' ≤ a + 1 → Q v H'
def spBare : Sp := fun vs H Q _ => vs = [] ∧ ∀ H', Same H H' → Q (.bl true) H'
def spRightX (K : PySem.W.Frag) : Sp := fun vs H Q _ => ∃ v w, vs = [v, w] ∧ Val K H v ∧ Val K H w ∧ ∀ H', Same H H' → Q (.bl true) H'
def spLawN (K : PySem.W.Frag) : Sp := fun vs H Q _ => ∃ (a : Addr) (ns : List Int), vs = [.ref a] ∧ SqL K H a (ns.map V.int) ∧ ns.length ≤ 63 ∧ ∀ H', Q (.bl true) H'
end RR
set_option maxHeartbeats 4000000
namespace RR
open PySem PySem.Spec PyProof.Rows L2
local macro_rules | `(tactic| walk_at "hp") => `(tactic| first | assumption | exact upd_same | (refine hp_new ?_ (by assumption); walk_at "hp") | (refine hp_mut ?_ (by first | assumption | (apply Ne.symm; assumption)); walk_at "hp") | (refine Same.at (by assumption) ?_; walk_at "hp"))
local macro_rules | `(tactic| walk_at "same") => `(tactic| first | exact fun _ _ z => z | assumption | (refine same_new ?_ (by assumption); walk_at "same") | (refine L2.Same.trans ?_ (by assumption); walk_at "same"))
local macro_rules | `(tactic| walk_at "sq") => `(tactic| exact SqL.of (by walk_at "hp"))
local macro_rules | `(tactic| walk_at "sqT") => `(tactic| exact SqT.of (by walk_at "hp"))

def top (i : Nat) : Stmt := PySem.Challenge.pw_sixasone_k97_errors_made.main.body.getD i (.Pass ⟨0, 0, 0, 0⟩)
abbrev s__law_pen : Stmt := top 21
abbrev N__law_pen : List Str := ["_law_script"]
theorem sc__law_pen : FnScope N__law_pen ["_law_script"] (defScope s__law_pen) := ⟨rfl, rfl, rfl, by decide +kernel, rfl, by decide +kernel, by decide +kernel⟩
abbrev s__law_draw : Stmt := top 22
abbrev N__law_draw : List Str := ["_law_pen_here", "_law_many", "_law_digit", "_law_at", "_law_cell", "_law_great", "_law_mixed_here"]
theorem sc__law_draw : FnScope N__law_draw ["_law_pen_here", "_law_many"] (defScope s__law_draw) := ⟨rfl, rfl, rfl, by decide +kernel, rfl, by decide +kernel, by decide +kernel⟩
abbrev s__law_pick : Stmt := top 23
abbrev N__law_pick : List Str := ["_law_pen_here", "_law_some"]
theorem sc__law_pick : FnScope N__law_pick ["_law_pen_here", "_law_some"] (defScope s__law_pick) := ⟨rfl, rfl, rfl, by decide +kernel, rfl, by decide +kernel, by decide +kernel⟩
abbrev s__law_marks : Stmt := top 25
abbrev N__law_marks : List Str := ["_law_error", "_law_found"]
theorem sc__law_marks : FnScope N__law_marks ["_law_error"] (defScope s__law_marks) := ⟨rfl, rfl, rfl, by decide +kernel, rfl, by decide +kernel, by decide +kernel⟩
abbrev s__law_is_alone : Stmt := top 26
abbrev N__law_is_alone : List Str := ["_law_error", "_law_spot", "_law_at", "_law_is_one"]
theorem sc__law_is_alone : FnScope N__law_is_alone ["_law_error", "_law_spot"] (defScope s__law_is_alone) := ⟨rfl, rfl, rfl, by decide +kernel, rfl, by decide +kernel, by decide +kernel⟩
abbrev s__law_value : Stmt := top 27
abbrev N__law_value : List Str := ["_law_pen_here", "_law_some"]
theorem sc__law_value : FnScope N__law_value ["_law_pen_here"] (defScope s__law_value) := ⟨rfl, rfl, rfl, by decide +kernel, rfl, by decide +kernel, by decide +kernel⟩
abbrev s__law_bare_right : Stmt := top 28
abbrev N__law_bare_right : List Str := []
theorem sc__law_bare_right : FnScope N__law_bare_right [] (defScope s__law_bare_right) := ⟨rfl, rfl, rfl, by decide +kernel, rfl, by decide +kernel, by decide +kernel⟩
abbrev s__law_right : Stmt := top 29
abbrev N__law_right : List Str := ["_law_thing", "_law_more", "_law_made", "_law_error", "_law_named", "_law_spot", "_law_worse", "_law_barred", "_law_many"]
theorem sc__law_right : FnScope N__law_right ["_law_thing", "_law_more"] (defScope s__law_right) := ⟨rfl, rfl, rfl, by decide +kernel, rfl, by decide +kernel, by decide +kernel⟩
abbrev s_law : Stmt := top 30
abbrev N_law : List Str := ["_law_script", "_law_pen_here", "_law_lap"]
theorem sc_law : FnScope N_law ["_law_script"] (defScope s_law) := ⟨rfl, rfl, rfl, by decide +kernel, rfl, by decide +kernel, by decide +kernel⟩
structure TX (K : PySem.W.Frag) (mg : Str → Option Value) : Type where
  b_int : mg "int" = none
  b_list : mg "list" = none
  b_len : mg "len" = none
  b_abs : mg "abs" = none
  b_isinstance : mg "isinstance" = none
  b_ValueError : mg "ValueError" = none
  b_repr : mg "repr" = none
  b_range : mg "range" = none
  b_enumerate : mg "enumerate" = none
  b_zip : mg "zip" = none
  f__law_pen : Addr
  d__law_pen : FuncData
  F__law_pen : Fun K "_law_pen" "_law_pen" s__law_pen f__law_pen d__law_pen
  m__law_pen : mg "_law_pen" = some (.ref f__law_pen)
  f__law_draw : Addr
  d__law_draw : FuncData
  F__law_draw : Fun K "_law_draw" "_law_draw" s__law_draw f__law_draw d__law_draw
  m__law_draw : mg "_law_draw" = some (.ref f__law_draw)
  f__law_pick : Addr
  d__law_pick : FuncData
  F__law_pick : Fun K "_law_pick" "_law_pick" s__law_pick f__law_pick d__law_pick
  m__law_pick : mg "_law_pick" = some (.ref f__law_pick)
  f__law_marks : Addr
  d__law_marks : FuncData
  F__law_marks : Fun K "_law_marks" "_law_marks" s__law_marks f__law_marks d__law_marks
  m__law_marks : mg "_law_marks" = some (.ref f__law_marks)
  f__law_is_alone : Addr
  d__law_is_alone : FuncData
  F__law_is_alone : Fun K "_law_is_alone" "_law_is_alone" s__law_is_alone f__law_is_alone d__law_is_alone
  m__law_is_alone : mg "_law_is_alone" = some (.ref f__law_is_alone)
  f__law_value : Addr
  d__law_value : FuncData
  F__law_value : Fun K "_law_value" "_law_value" s__law_value f__law_value d__law_value
  m__law_value : mg "_law_value" = some (.ref f__law_value)
  f__law_bare_right : Addr
  d__law_bare_right : FuncData
  F__law_bare_right : Fun K "_law_bare_right" "_law_bare_right" s__law_bare_right f__law_bare_right d__law_bare_right
  m__law_bare_right : mg "_law_bare_right" = some (.ref f__law_bare_right)
  f__law_right : Addr
  d__law_right : FuncData
  F__law_right : Fun K "_law_right" "_law_right" s__law_right f__law_right d__law_right
  m__law_right : mg "_law_right" = some (.ref f__law_right)
  f_law : Addr
  d_law : FuncData
  F_law : Fun K "law" "law" s_law f_law d_law
  m_law : mg "law" = some (.ref f_law)
  C_WebError : Addr
  m_WebError : mg "WebError" = some (.ref C_WebError)
  C_BadRatio : Addr
  m_BadRatio : mg "BadRatio" = some (.ref C_BadRatio)
  C_NoRatio : Addr
  m_NoRatio : mg "NoRatio" = some (.ref C_NoRatio)
  C_BadName : Addr
  m_BadName : mg "BadName" = some (.ref C_BadName)
  C_BadWeb : Addr
  m_BadWeb : mg "BadWeb" = some (.ref C_BadWeb)
  C_NoName : Addr
  m_NoName : mg "NoName" = some (.ref C_NoName)
  C_NotTied : Addr
  m_NotTied : mg "NotTied" = some (.ref C_NotTied)
  C_NotPlain : Addr
  m_NotPlain : mg "NotPlain" = some (.ref C_NotPlain)
  C_BadValue : Addr
  m_BadValue : mg "BadValue" = some (.ref C_BadValue)
  C_NoValue : Addr
  m_NoValue : mg "NoValue" = some (.ref C_NoValue)
  C_BadTree : Addr
  m_BadTree : mg "BadTree" = some (.ref C_BadTree)
  C_BadStream : Addr
  m_BadStream : mg "BadStream" = some (.ref C_BadStream)
  C_BadHeights : Addr
  m_BadHeights : mg "BadHeights" = some (.ref C_BadHeights)
  C_NoTurn : Addr
  m_NoTurn : mg "NoTurn" = some (.ref C_NoTurn)
  C_TooMany : Addr
  m_TooMany : mg "TooMany" = some (.ref C_TooMany)
  C_BadText : Addr
  m_BadText : mg "BadText" = some (.ref C_BadText)
  C_Worse : Addr
  m_Worse : mg "Worse" = some (.ref C_Worse)
  C_Barred : Addr
  m_Barred : mg "Barred" = some (.ref C_Barred)
  C_NoLine : Addr
  m_NoLine : mg "NoLine" = some (.ref C_NoLine)
  fI_BadRatio : Addr
  low_BadRatio : PySem.LowA.LowTxt K mg "BadRatio" "BadRatio.__init__" C_BadRatio fI_BadRatio
  x0_NoRatio : PySem.W.excIn K C_NoRatio [.type "ValueError", .type "Exception", .type "BaseException", .type "object"] "ValueError.__new__" = true
  k0_NoRatio : PySem.W.keepIn K (.ref C_NoRatio) = true
  fI_BadName : Addr
  low_BadName : PySem.LowN.LowTxt K mg "BadName" "BadName.__init__" C_BadName fI_BadName
  fI_BadWeb : Addr
  low_BadWeb : PySem.LowA.LowTxt K mg "BadWeb" "BadWeb.__init__" C_BadWeb fI_BadWeb
  fI_NoName : Addr
  low_NoName : PySem.LowN.LowTxt K mg "NoName" "NoName.__init__" C_NoName fI_NoName
  x0_NotTied : PySem.W.excIn K C_NotTied [.type "ValueError", .type "Exception", .type "BaseException", .type "object"] "ValueError.__new__" = true
  k0_NotTied : PySem.W.keepIn K (.ref C_NotTied) = true
  fI_NotPlain : Addr
  low_NotPlain : PySem.LowN.LowTxt K mg "NotPlain" "NotPlain.__init__" C_NotPlain fI_NotPlain
  fI_BadValue : Addr
  low_BadValue : PySem.LowN.LowTxt K mg "BadValue" "BadValue.__init__" C_BadValue fI_BadValue
  fI_NoValue : Addr
  low_NoValue : PySem.LowN.LowTxt K mg "NoValue" "NoValue.__init__" C_NoValue fI_NoValue
  x0_BadTree : PySem.W.excIn K C_BadTree [.type "ValueError", .type "Exception", .type "BaseException", .type "object"] "ValueError.__new__" = true
  k0_BadTree : PySem.W.keepIn K (.ref C_BadTree) = true
  x0_BadStream : PySem.W.excIn K C_BadStream [.type "ValueError", .type "Exception", .type "BaseException", .type "object"] "ValueError.__new__" = true
  k0_BadStream : PySem.W.keepIn K (.ref C_BadStream) = true
  x0_BadHeights : PySem.W.excIn K C_BadHeights [.type "ValueError", .type "Exception", .type "BaseException", .type "object"] "ValueError.__new__" = true
  k0_BadHeights : PySem.W.keepIn K (.ref C_BadHeights) = true
  fI_NoTurn : Addr
  low_NoTurn : PySem.LowA.LowTxt K mg "NoTurn" "NoTurn.__init__" C_NoTurn fI_NoTurn
  fI_TooMany : Addr
  low_TooMany : PySem.LowM.LowTxt K mg "TooMany" "TooMany.__init__" C_TooMany fI_TooMany
  fI_BadText : Addr
  low_BadText : PySem.LowA.LowTxt K mg "BadText" "BadText.__init__" C_BadText fI_BadText
  fI_Worse : Addr
  low_Worse : PySem.LowW.LowTxt K mg "Worse" "Worse.__init__" C_Worse fI_Worse
  fI_Barred : Addr
  low_Barred : PySem.LowC.LowTxt K mg "Barred" "Barred.__init__" C_Barred fI_Barred
  x0_NoLine : PySem.W.excIn K C_NoLine [.type "ValueError", .type "Exception", .type "BaseException", .type "object"] "ValueError.__new__" = true
  k0_NoLine : PySem.W.keepIn K (.ref C_NoLine) = true
  mk_BadRatio : MarkOf K C_BadRatio 0 [C_BadRatio, C_NoRatio, C_BadName, C_BadWeb, C_NoName, C_NotTied, C_NotPlain, C_BadValue, C_NoValue, C_BadTree, C_BadStream, C_BadHeights, C_NoTurn, C_TooMany, C_BadText, C_Worse, C_Barred, C_NoLine] C_WebError
  mk_NoRatio : MarkOf K C_NoRatio 1 [C_BadRatio, C_NoRatio, C_BadName, C_BadWeb, C_NoName, C_NotTied, C_NotPlain, C_BadValue, C_NoValue, C_BadTree, C_BadStream, C_BadHeights, C_NoTurn, C_TooMany, C_BadText, C_Worse, C_Barred, C_NoLine] C_WebError
  mk_BadName : MarkOf K C_BadName 2 [C_BadRatio, C_NoRatio, C_BadName, C_BadWeb, C_NoName, C_NotTied, C_NotPlain, C_BadValue, C_NoValue, C_BadTree, C_BadStream, C_BadHeights, C_NoTurn, C_TooMany, C_BadText, C_Worse, C_Barred, C_NoLine] C_WebError
  mk_BadWeb : MarkOf K C_BadWeb 3 [C_BadRatio, C_NoRatio, C_BadName, C_BadWeb, C_NoName, C_NotTied, C_NotPlain, C_BadValue, C_NoValue, C_BadTree, C_BadStream, C_BadHeights, C_NoTurn, C_TooMany, C_BadText, C_Worse, C_Barred, C_NoLine] C_WebError
  mk_NoName : MarkOf K C_NoName 4 [C_BadRatio, C_NoRatio, C_BadName, C_BadWeb, C_NoName, C_NotTied, C_NotPlain, C_BadValue, C_NoValue, C_BadTree, C_BadStream, C_BadHeights, C_NoTurn, C_TooMany, C_BadText, C_Worse, C_Barred, C_NoLine] C_WebError
  mk_NotTied : MarkOf K C_NotTied 5 [C_BadRatio, C_NoRatio, C_BadName, C_BadWeb, C_NoName, C_NotTied, C_NotPlain, C_BadValue, C_NoValue, C_BadTree, C_BadStream, C_BadHeights, C_NoTurn, C_TooMany, C_BadText, C_Worse, C_Barred, C_NoLine] C_WebError
  mk_NotPlain : MarkOf K C_NotPlain 6 [C_BadRatio, C_NoRatio, C_BadName, C_BadWeb, C_NoName, C_NotTied, C_NotPlain, C_BadValue, C_NoValue, C_BadTree, C_BadStream, C_BadHeights, C_NoTurn, C_TooMany, C_BadText, C_Worse, C_Barred, C_NoLine] C_WebError
  mk_BadValue : MarkOf K C_BadValue 7 [C_BadRatio, C_NoRatio, C_BadName, C_BadWeb, C_NoName, C_NotTied, C_NotPlain, C_BadValue, C_NoValue, C_BadTree, C_BadStream, C_BadHeights, C_NoTurn, C_TooMany, C_BadText, C_Worse, C_Barred, C_NoLine] C_WebError
  mk_NoValue : MarkOf K C_NoValue 8 [C_BadRatio, C_NoRatio, C_BadName, C_BadWeb, C_NoName, C_NotTied, C_NotPlain, C_BadValue, C_NoValue, C_BadTree, C_BadStream, C_BadHeights, C_NoTurn, C_TooMany, C_BadText, C_Worse, C_Barred, C_NoLine] C_WebError
  mk_BadTree : MarkOf K C_BadTree 9 [C_BadRatio, C_NoRatio, C_BadName, C_BadWeb, C_NoName, C_NotTied, C_NotPlain, C_BadValue, C_NoValue, C_BadTree, C_BadStream, C_BadHeights, C_NoTurn, C_TooMany, C_BadText, C_Worse, C_Barred, C_NoLine] C_WebError
  mk_BadStream : MarkOf K C_BadStream 10 [C_BadRatio, C_NoRatio, C_BadName, C_BadWeb, C_NoName, C_NotTied, C_NotPlain, C_BadValue, C_NoValue, C_BadTree, C_BadStream, C_BadHeights, C_NoTurn, C_TooMany, C_BadText, C_Worse, C_Barred, C_NoLine] C_WebError
  mk_BadHeights : MarkOf K C_BadHeights 11 [C_BadRatio, C_NoRatio, C_BadName, C_BadWeb, C_NoName, C_NotTied, C_NotPlain, C_BadValue, C_NoValue, C_BadTree, C_BadStream, C_BadHeights, C_NoTurn, C_TooMany, C_BadText, C_Worse, C_Barred, C_NoLine] C_WebError
  mk_NoTurn : MarkOf K C_NoTurn 12 [C_BadRatio, C_NoRatio, C_BadName, C_BadWeb, C_NoName, C_NotTied, C_NotPlain, C_BadValue, C_NoValue, C_BadTree, C_BadStream, C_BadHeights, C_NoTurn, C_TooMany, C_BadText, C_Worse, C_Barred, C_NoLine] C_WebError
  mk_TooMany : MarkOf K C_TooMany 13 [C_BadRatio, C_NoRatio, C_BadName, C_BadWeb, C_NoName, C_NotTied, C_NotPlain, C_BadValue, C_NoValue, C_BadTree, C_BadStream, C_BadHeights, C_NoTurn, C_TooMany, C_BadText, C_Worse, C_Barred, C_NoLine] C_WebError
  mk_BadText : MarkOf K C_BadText 14 [C_BadRatio, C_NoRatio, C_BadName, C_BadWeb, C_NoName, C_NotTied, C_NotPlain, C_BadValue, C_NoValue, C_BadTree, C_BadStream, C_BadHeights, C_NoTurn, C_TooMany, C_BadText, C_Worse, C_Barred, C_NoLine] C_WebError
  mk_Worse : MarkOf K C_Worse 15 [C_BadRatio, C_NoRatio, C_BadName, C_BadWeb, C_NoName, C_NotTied, C_NotPlain, C_BadValue, C_NoValue, C_BadTree, C_BadStream, C_BadHeights, C_NoTurn, C_TooMany, C_BadText, C_Worse, C_Barred, C_NoLine] C_WebError
  mk_Barred : MarkOf K C_Barred 16 [C_BadRatio, C_NoRatio, C_BadName, C_BadWeb, C_NoName, C_NotTied, C_NotPlain, C_BadValue, C_NoValue, C_BadTree, C_BadStream, C_BadHeights, C_NoTurn, C_TooMany, C_BadText, C_Worse, C_Barred, C_NoLine] C_WebError
  mk_NoLine : MarkOf K C_NoLine 17 [C_BadRatio, C_NoRatio, C_BadName, C_BadWeb, C_NoName, C_NotTied, C_NotPlain, C_BadValue, C_NoValue, C_BadTree, C_BadStream, C_BadHeights, C_NoTurn, C_TooMany, C_BadText, C_Worse, C_Barred, C_NoLine] C_WebError
abbrev TX.cs {K : PySem.W.Frag} {mg : Str → Option Value} (T : TX K mg) : List Addr := [T.C_BadRatio, T.C_NoRatio, T.C_BadName, T.C_BadWeb, T.C_NoName, T.C_NotTied, T.C_NotPlain, T.C_BadValue, T.C_NoValue, T.C_BadTree, T.C_BadStream, T.C_BadHeights, T.C_NoTurn, T.C_TooMany, T.C_BadText, T.C_Worse, T.C_Barred, T.C_NoLine]
theorem bd__law_pen {K : PySem.W.Frag} {f : Addr} {fd : FuncData} (F : Fun K "_law_pen" "_law_pen" s__law_pen f fd) : Binds K fd ["_law_script"] [] := F.binds fun _ _ _ _ _ _ us hl => match us, hl with | [_], _ => rfl
theorem bd__law_draw {K : PySem.W.Frag} {f : Addr} {fd : FuncData} (F : Fun K "_law_draw" "_law_draw" s__law_draw f fd) : Binds K fd ["_law_pen_here", "_law_many"] [] := F.binds fun _ _ _ _ _ _ us hl => match us, hl with | [_, _], _ => rfl
theorem bd__law_pick {K : PySem.W.Frag} {f : Addr} {fd : FuncData} (F : Fun K "_law_pick" "_law_pick" s__law_pick f fd) : Binds K fd ["_law_pen_here", "_law_some"] [] := F.binds fun _ _ _ _ _ _ us hl => match us, hl with | [_, _], _ => rfl
theorem bd__law_marks {K : PySem.W.Frag} {f : Addr} {fd : FuncData} (F : Fun K "_law_marks" "_law_marks" s__law_marks f fd) : Binds K fd ["_law_error"] [] := F.binds fun _ _ _ _ _ _ us hl => match us, hl with | [_], _ => rfl
theorem bd__law_is_alone {K : PySem.W.Frag} {f : Addr} {fd : FuncData} (F : Fun K "_law_is_alone" "_law_is_alone" s__law_is_alone f fd) : Binds K fd ["_law_error", "_law_spot"] [] := F.binds fun _ _ _ _ _ _ us hl => match us, hl with | [_, _], _ => rfl
theorem bd__law_value {K : PySem.W.Frag} {f : Addr} {fd : FuncData} (F : Fun K "_law_value" "_law_value" s__law_value f fd) : Binds K fd ["_law_pen_here"] [] := F.binds fun _ _ _ _ _ _ us hl => match us, hl with | [_], _ => rfl
theorem bd__law_bare_right {K : PySem.W.Frag} {f : Addr} {fd : FuncData} (F : Fun K "_law_bare_right" "_law_bare_right" s__law_bare_right f fd) : Binds K fd [] [] := F.binds fun _ _ _ _ _ _ us hl => match us, hl with | [], _ => rfl
theorem bd__law_right {K : PySem.W.Frag} {f : Addr} {fd : FuncData} (F : Fun K "_law_right" "_law_right" s__law_right f fd) : Binds K fd ["_law_thing", "_law_more"] [] := F.binds fun _ _ _ _ _ _ us hl => match us, hl with | [_, _], _ => rfl
theorem bd_law {K : PySem.W.Frag} {f : Addr} {fd : FuncData} (F : Fun K "law" "law" s_law f fd) : Binds K fd ["_law_script"] [] := F.binds fun _ _ _ _ _ _ us hl => match us, hl with | [_], _ => rfl
section
variable {P : Program} {w : World} {K : PySem.W.Frag} {mg : Str → Option Value} {base : Heap}
theorem g__law_pen (T : TX K mg) : FnG P w K mg base CX0 1 T.f__law_pen (spPen K) := by
  refine okG T.F__law_pen sc__law_pen (bd__law_pen T.F__law_pen) (fun vs H Q E h => ?_) (fun cdv A out s H vs Q E hr fr h => ?_)
  · obtain ⟨a, ns, rfl, hS, hl, k⟩ := h
    rfl
  · obtain ⟨a, ns, rfl, hS, hl, k⟩ := h
    refine ⟨_, (pss_one (ps_ret (pe_lst (pa_cons (pe_callTy call_list_of (by rfl) T.b_list (by decide +kernel) (pa_cons (pe_slice sl_list (pv 0) po_none (po_some pe_int)) pa_nil)) (pa_cons pe_int (pa_cons pe_int pa_nil)))))), ?_⟩
    refine ⟨_, rfl, _, rfl, a, _, rfl, hS, fun q1 n1 => ?_⟩
    refine ⟨_, _, rfl, .inl (SqL.of upd_same), fun q2 n2 => ?_⟩
    refine ⟨by show 3 ≤ sizeLine; decide, fun q3 n3 => ?_⟩
    have s1 : Same H (upd (upd (upd H q1 (.lst (cutV (ns.map V.int) none (some 63)))) q2 (.lst (cutV (ns.map V.int) none (some 63)))) q3 (.lst [.ref q2, .int 0, .int 0])) := same_new (same_new (Same.new n1) n2) n3
    refine k q3 q2 _ s1 ((same_new (Same.new n1) n2).free n3) ((Same.new n1).free n2) ⟨upd_same, ?_, by decide, by decide, hl⟩
    rw [upd_ne (ne_of_none upd_same n3), upd_same, cut63 hl]
theorem g__law_draw (T : TX K mg) : FnG P w K mg base CX0 1 T.f__law_draw (spDraw) := by
  refine okG T.F__law_draw sc__law_draw (bd__law_draw T.F__law_draw) (fun vs H Q E h => ?_) (fun cdv A out s H vs Q E hr fr h => ?_)
  · obtain ⟨p, c, ns, a, g, m, rfl, m0, m1, W, k⟩ := h
    rfl
  · obtain ⟨p, c, ns, a, g, m, rfl, m0, m1, W, k⟩ := h
    refine ⟨_, (pss_cons (ps_if (pt_cmpR op_gt (pe_ix ix_list (pv 0) pe_int (fun _ _ => rfl)) pe_int (nomark _)) (pss_cons (ps_set (i := 2) sc__law_draw.nd rfl (Or.inl rfl) (pe_op op_modL (pe_callTy call_int1 (by rfl) T.b_int (by decide +kernel) (pa_cons (pe_ix ix_list (pv 0) pe_int (fun _ _ => rfl)) pa_nil)) (pv 1)))
 (pss_cons (ps_asg (pe_op op_divL (pe_callTy call_int1 (by rfl) T.b_int (by decide +kernel) (pa_cons (pe_ix ix_list (pv 0) pe_int (fun _ _ => rfl)) pa_nil)) (pv 1)) (pg_sub (pv 0) pe_int set_list))
 (pss_one (ps_ret (pv 2))))) pss_nil)
 (pss_cons (ps_set (i := 3) sc__law_draw.nd rfl (Or.inl rfl) (pe_ix ix_list (pv 0) pe_int (fun _ _ => rfl)))
 (pss_cons (ps_asg (pe_op op_add (pv 3) pe_int) (pg_sub (pv 0) pe_int set_list))
 (pss_cons (ps_set (i := 4) sc__law_draw.nd rfl (Or.inl rfl) (pe_op op_add (pe_op op_mulL pe_int (pv 3)) pe_int))
 (pss_cons (ps_if (pt_cmpR (op_neD hr.units) (pe_ix ix_list (pv 0) pe_int (fun _ _ => rfl)) (pe_lst pa_nil) (nomark _)) (pss_one (ps_set (i := 4) sc__law_draw.nd rfl (Or.inl rfl) (pe_ix ix_list (pe_ix ix_list (pv 0) pe_int (fun _ _ => rfl)) (pe_op op_modL (pe_callTy call_int1 (by rfl) T.b_int (by decide +kernel) (pa_cons (pv 3) pa_nil)) (pe_callB call_len_seq (by rfl) T.b_len PySem.boot_len (pa_cons (pe_ix ix_list (pv 0) pe_int (fun _ _ => rfl)) pa_nil))) (fun _ _ => rfl)))) pss_nil)
 (pss_cons (ps_if (PW.pt (pw_and (pt_cmpR op_lt (pv 3) (pe_callB call_len_seq (by rfl) T.b_len PySem.boot_len (pa_cons (pe_ix ix_list (pv 0) pe_int (fun _ _ => rfl)) pa_nil)) (nomark _)) (pw_and1 (pt_cmpR op_ge (pe_callB call_abs (by rfl) T.b_abs (by decide +kernel) (pa_cons (pv 4) pa_nil)) (pe_op op_powL pe_int pe_int) (nomark _))))) (pss_cons (ps_set (i := 5) sc__law_draw.nd rfl (Or.inl rfl) (pe_op op_add (pe_op op_mulL pe_int (pe_callB call_abs (by rfl) T.b_abs (by decide +kernel) (pa_cons (pv 4) pa_nil))) (pe_callTy call_int1 (by rfl) T.b_int (by decide +kernel) (pa_cons (pe_cmpR op_lt (pv 4) pe_int (nomark _)) pa_nil))))
 (pss_cons (ps_asg (pe_op op_divL (pv 5) (pv 1)) (pg_sub (pv 0) pe_int set_list))
 (pss_one (ps_ret (pe_op op_modL (pe_callTy call_int1 (by rfl) T.b_int (by decide +kernel) (pa_cons (pv 5) pa_nil)) (pv 1)))))) pss_nil)
 (pss_cons (ps_set (i := 6) sc__law_draw.nd rfl (Or.inl rfl) (pe_op op_modL (pe_callTy call_int1 (by rfl) T.b_int (by decide +kernel) (pa_cons (pe_op op_powL (pe_op op_add (pe_op op_add (pe_op op_modL (pe_callTy call_int1 (by rfl) T.b_int (by decide +kernel) (pa_cons (pv 4) pa_nil)) pe_int) (pe_op op_mulL pe_int (pv 3))) pe_int) pe_int) pa_nil)) pe_int))
 (pss_cons (ps_set (i := 6) sc__law_draw.nd rfl (Or.inl rfl) (pe_op op_modL (pe_callTy call_int1 (by rfl) T.b_int (by decide +kernel) (pa_cons (pe_op op_powL (pe_op op_add (pe_op op_add (pe_op op_mulL (pv 6) (pe_op op_add (pe_op op_mulL pe_int (pv 3)) pe_int)) (pe_op op_mulL (pe_op op_mulL pe_int (pv 3)) (pv 3))) pe_int) pe_int) pa_nil)) pe_int))
 (pss_one (ps_ret (pe_op op_modL (pe_callTy call_int1 (by rfl) T.b_int (by decide +kernel) (pa_cons (pe_op op_divL (pv 6) pe_int) pa_nil)) (pv 1)))))))))))), ?_⟩
    have WP := W.pn
    have WC := W.cs
    have WL := W.la
    have WB := W.lb
    have WN := W.ne
    refine ⟨_, rfl, _, _, _, _, rfl, rfl, (SqL.of (by walk_at "hp")), rfl, _, _, rfl, rfl, _, rfl, ?_⟩
    refine ite2 (fun t1 => ?_) (fun t1 => ?_)
    · skip
      refine ⟨_, rfl, _, _, _, _, rfl, rfl, (SqL.of (by walk_at "hp")), rfl, .inl ⟨_, rfl, ?_⟩⟩
      refine ⟨_, rfl, _, _, rfl, rfl, (by omega), fun r2 h2a h2b => ?_⟩
      refine ⟨_, rfl, _, _, _, _, rfl, rfl, (SqL.of (by walk_at "hp")), rfl, .inl ⟨_, rfl, ?_⟩⟩
      refine ⟨_, rfl, _, _, rfl, rfl, (by omega), fun r3 => ?_⟩
      refine ⟨_, rfl, _, _, _, _, rfl, rfl, (by walk_at "hp"), rfl, _, rfl, ?_⟩
      exact k _ _ _ _ (by walk_at "hp") (fun b o hb hne => by walk_at "hp") (by assumption) (by assumption) (by omega) (by omega)
    · skip
      refine ⟨_, rfl, _, _, _, _, rfl, rfl, (SqL.of (by walk_at "hp")), rfl, _, rfl, _, _, rfl, rfl, _, rfl, _, _, _, _, rfl, rfl, (by walk_at "hp"), rfl, _, rfl, _, _, rfl, rfl, (by omega), _, _, rfl, rfl, _, rfl, _, _, _, _, rfl, rfl, (SqL.of (by walk_at "hp")), rfl, (by show _ ≤ _; decide), fun q4 hq4 => ?_⟩
      refine ⟨.list (ns.map PyData.int), .list [], .lst (SqL.of (by walk_at "hp")) (dp_ints ns), .lst (SqL.of upd_same) .nil, shaped_ints ns, by decide, ?_⟩
      rw [eqv_nil]
      refine ⟨_, rfl, ?_⟩
      refine ite2 (fun t5 => ?_) (fun t5 => ?_)
      · skip
        refine ⟨_, rfl, _, _, _, _, rfl, rfl, (SqL.of (by walk_at "hp")), rfl, _, rfl, .inl ⟨_, rfl, ?_⟩⟩
        refine ⟨_, rfl, _, _, _, _, rfl, rfl, (SqL.of (by walk_at "hp")), rfl, _, _, rfl, .inl (SqL.of (by walk_at "hp")), _, _, rfl, rfl, (len_pos (by assumption)), fun r6 h6a h6b => ?_⟩
        obtain ⟨n, _, hn⟩ := at_map (ns := ns) h6a h6b
        refine ⟨_, _, _, _, rfl, rfl, SqL.of (by walk_at "hp"), hn, ?_⟩
        refine ⟨_, rfl, _, rfl, _, _, _, _, rfl, rfl, (SqL.of (by walk_at "hp")), rfl, _, _, rfl, .inl (SqL.of (by walk_at "hp")), _, _, rfl, rfl, _, rfl, ?_⟩
        refine ite2 (fun u1 => ?_) (fun u1 => ?_)
        · skip
          refine ⟨_, rfl, _, rfl, _, _, rfl, rfl, ⟨by decide, by decide, by omega⟩, fun r7 => ?_⟩
          refine ⟨_, _, rfl, rfl, _, rfl, ?_⟩
          refine ite2 (fun u2 => ?_) (fun u2 => ?_)
          · skip
            refine ⟨_, rfl, _, rfl, _, _, rfl, rfl, (by omega), _, rfl, _, _, rfl, rfl, .inr ⟨_, rfl, ?_⟩⟩
            refine ⟨_, _, rfl, rfl, _, rfl, _, rfl, _, _, rfl, rfl, (by omega), fun r8 => ?_⟩
            refine ⟨_, rfl, _, _, _, _, rfl, rfl, (by walk_at "hp"), rfl, _, rfl, .inl ⟨_, rfl, ?_⟩⟩
            refine ⟨_, rfl, _, _, rfl, rfl, (by omega), fun r9 h9a h9b => ?_⟩
            exact k _ _ _ _ (by walk_at "hp") (fun b o hb hne => by walk_at "hp") (by assumption) (by assumption) (by omega) (by omega)
          · skip
            refine ⟨_, rfl, .inl ⟨_, rfl, ?_⟩⟩
            refine ⟨_, _, rfl, rfl, (by omega), fun r10 h10a h10b => ?_⟩
            refine ⟨_, rfl, _, _, rfl, rfl, (by omega), _, _, rfl, rfl, _, _, rfl, rfl, _, _, rfl, rfl, ⟨by decide, by decide, by omega⟩, fun r11 => ?_⟩
            refine .inl ⟨_, rfl, ?_⟩
            refine ⟨_, _, rfl, rfl, (by omega), fun r12 h12a h12b => ?_⟩
            refine ⟨_, rfl, _, rfl, _, _, rfl, rfl, (by omega), _, _, rfl, rfl, _, _, rfl, rfl, (by omega), _, rfl, _, _, rfl, rfl, (by omega), _, rfl, _, _, rfl, rfl, (by omega), _, _, rfl, rfl, _, _, rfl, rfl, _, _, rfl, rfl, ⟨by decide, by decide, pow3_b (by assumption) (by omega) WL WB (by decide) (by decide) (by decide) (by decide) (by decide) (by decide)⟩, fun r13 => ?_⟩
            refine .inl ⟨_, rfl, ?_⟩
            refine ⟨_, _, rfl, rfl, (by omega), fun r14 h14a h14b => ?_⟩
            refine ⟨_, rfl, _, _, rfl, rfl, (by omega), fun r15 => ?_⟩
            refine .inl ⟨_, rfl, ?_⟩
            refine ⟨_, rfl, _, _, rfl, rfl, (by omega), fun r16 h16a h16b => ?_⟩
            exact k _ _ _ _ (by walk_at "hp") (fun b o hb hne => by walk_at "hp") (by assumption) (by assumption) (by omega) (by omega)
        · skip
          refine ⟨_, rfl, .inl ⟨_, rfl, ?_⟩⟩
          refine ⟨_, _, rfl, rfl, (by omega), fun r17 h17a h17b => ?_⟩
          refine ⟨_, rfl, _, _, rfl, rfl, (by omega), _, _, rfl, rfl, _, _, rfl, rfl, _, _, rfl, rfl, ⟨by decide, by decide, by omega⟩, fun r18 => ?_⟩
          refine .inl ⟨_, rfl, ?_⟩
          refine ⟨_, _, rfl, rfl, (by omega), fun r19 h19a h19b => ?_⟩
          refine ⟨_, rfl, _, rfl, _, _, rfl, rfl, (by omega), _, _, rfl, rfl, _, _, rfl, rfl, (by omega), _, rfl, _, _, rfl, rfl, (by omega), _, rfl, _, _, rfl, rfl, (by omega), _, _, rfl, rfl, _, _, rfl, rfl, _, _, rfl, rfl, ⟨by decide, by decide, pow3_b (by assumption) (by omega) WL WB (by decide) (by decide) (by decide) (by decide) (by decide) (by decide)⟩, fun r20 => ?_⟩
          refine .inl ⟨_, rfl, ?_⟩
          refine ⟨_, _, rfl, rfl, (by omega), fun r21 h21a h21b => ?_⟩
          refine ⟨_, rfl, _, _, rfl, rfl, (by omega), fun r22 => ?_⟩
          refine .inl ⟨_, rfl, ?_⟩
          refine ⟨_, rfl, _, _, rfl, rfl, (by omega), fun r23 h23a h23b => ?_⟩
          exact k _ _ _ _ (by walk_at "hp") (fun b o hb hne => by walk_at "hp") (by assumption) (by assumption) (by omega) (by omega)
      · skip
        refine ⟨_, rfl, _, rfl, _, _, _, _, rfl, rfl, (SqL.of (by walk_at "hp")), rfl, _, _, rfl, .inl (SqL.of (by walk_at "hp")), _, _, rfl, rfl, _, rfl, ?_⟩
        refine ite2 (fun u1 => ?_) (fun u1 => ?_)
        · skip
          refine ⟨_, rfl, _, rfl, _, _, rfl, rfl, ⟨by decide, by decide, by omega⟩, fun r24 => ?_⟩
          refine ⟨_, _, rfl, rfl, _, rfl, ?_⟩
          refine ite2 (fun u2 => ?_) (fun u2 => ?_)
          · skip
            refine ⟨_, rfl, _, rfl, _, _, rfl, rfl, (by omega), _, rfl, _, _, rfl, rfl, .inr ⟨_, rfl, ?_⟩⟩
            refine ⟨_, _, rfl, rfl, _, rfl, _, rfl, _, _, rfl, rfl, (by omega), fun r25 => ?_⟩
            refine ⟨_, rfl, _, _, _, _, rfl, rfl, (by walk_at "hp"), rfl, _, rfl, .inl ⟨_, rfl, ?_⟩⟩
            refine ⟨_, rfl, _, _, rfl, rfl, (by omega), fun r26 h26a h26b => ?_⟩
            exact k _ _ _ _ (by walk_at "hp") (fun b o hb hne => by walk_at "hp") (by assumption) (by assumption) (by omega) (by omega)
          · skip
            refine ⟨_, rfl, .inl ⟨_, rfl, ?_⟩⟩
            refine ⟨_, _, rfl, rfl, (by omega), fun r27 h27a h27b => ?_⟩
            refine ⟨_, rfl, _, _, rfl, rfl, (by omega), _, _, rfl, rfl, _, _, rfl, rfl, _, _, rfl, rfl, ⟨by decide, by decide, by omega⟩, fun r28 => ?_⟩
            refine .inl ⟨_, rfl, ?_⟩
            refine ⟨_, _, rfl, rfl, (by omega), fun r29 h29a h29b => ?_⟩
            refine ⟨_, rfl, _, rfl, _, _, rfl, rfl, (by omega), _, _, rfl, rfl, _, _, rfl, rfl, (by omega), _, rfl, _, _, rfl, rfl, (by omega), _, rfl, _, _, rfl, rfl, (by omega), _, _, rfl, rfl, _, _, rfl, rfl, _, _, rfl, rfl, ⟨by decide, by decide, pow3_b (by assumption) (by omega) WL WB (by decide) (by decide) (by decide) (by decide) (by decide) (by decide)⟩, fun r30 => ?_⟩
            refine .inl ⟨_, rfl, ?_⟩
            refine ⟨_, _, rfl, rfl, (by omega), fun r31 h31a h31b => ?_⟩
            refine ⟨_, rfl, _, _, rfl, rfl, (by omega), fun r32 => ?_⟩
            refine .inl ⟨_, rfl, ?_⟩
            refine ⟨_, rfl, _, _, rfl, rfl, (by omega), fun r33 h33a h33b => ?_⟩
            exact k _ _ _ _ (by walk_at "hp") (fun b o hb hne => by walk_at "hp") (by assumption) (by assumption) (by omega) (by omega)
        · skip
          refine ⟨_, rfl, .inl ⟨_, rfl, ?_⟩⟩
          refine ⟨_, _, rfl, rfl, (by omega), fun r34 h34a h34b => ?_⟩
          refine ⟨_, rfl, _, _, rfl, rfl, (by omega), _, _, rfl, rfl, _, _, rfl, rfl, _, _, rfl, rfl, ⟨by decide, by decide, by omega⟩, fun r35 => ?_⟩
          refine .inl ⟨_, rfl, ?_⟩
          refine ⟨_, _, rfl, rfl, (by omega), fun r36 h36a h36b => ?_⟩
          refine ⟨_, rfl, _, rfl, _, _, rfl, rfl, (by omega), _, _, rfl, rfl, _, _, rfl, rfl, (by omega), _, rfl, _, _, rfl, rfl, (by omega), _, rfl, _, _, rfl, rfl, (by omega), _, _, rfl, rfl, _, _, rfl, rfl, _, _, rfl, rfl, ⟨by decide, by decide, pow3_b (by assumption) (by omega) WL WB (by decide) (by decide) (by decide) (by decide) (by decide) (by decide)⟩, fun r37 => ?_⟩
          refine .inl ⟨_, rfl, ?_⟩
          refine ⟨_, _, rfl, rfl, (by omega), fun r38 h38a h38b => ?_⟩
          refine ⟨_, rfl, _, _, rfl, rfl, (by omega), fun r39 => ?_⟩
          refine .inl ⟨_, rfl, ?_⟩
          refine ⟨_, rfl, _, _, rfl, rfl, (by omega), fun r40 h40a h40b => ?_⟩
          exact k _ _ _ _ (by walk_at "hp") (fun b o hb hne => by walk_at "hp") (by assumption) (by assumption) (by omega) (by omega)
theorem g__law_pick (T : TX K mg) : FnG P w K mg base CX0 2 T.f__law_pick (spPick K) := by
  refine okG T.F__law_pick sc__law_pick (bd__law_pick T.F__law_pick) (fun vs H Q E h => ?_) (fun cdv A out s H vs Q E hr fr h => ?_)
  · obtain ⟨p, q, c, ns, a, g, xs, rfl, W, hq, hqp, x0, x1, k⟩ := h
    rfl
  · obtain ⟨p, q, c, ns, a, g, xs, rfl, W, hq, hqp, x0, x1, k⟩ := h
    refine ⟨_, (pss_one (ps_ret (pe_ix ix_list (pv 1) (pe_callG (g__law_draw T) (hr.mono (by decide)) fr (by rfl) T.m__law_draw T.F__law_draw.kp pass0 (pa_cons (pv 0) (pa_cons (pe_callB call_len_seq (by rfl) T.b_len PySem.boot_len (pa_cons (pv 1) pa_nil)) pa_nil))) (fun _ _ => rfl)))), ?_⟩
    refine ⟨_, rfl, _, rfl, _, rfl, _, _, rfl, .inl (SqL.of hq), ?_⟩
    refine ⟨p, c, ns, a, g, _, rfl, by omega, by omega, W, fun d a' g' H' hp kp d0 d1 h1 h2 => ?_⟩
    obtain ⟨x, hx, ha⟩ := at_some d0 d1
    exact ⟨q, xs, d, x, rfl, rfl, SqL.of (kp _ _ hq hqp), ha, k x a' g' H' hp kp hx h1 h2⟩
theorem g__law_marks (T : TX K mg) : FnG P w K mg base CX0 1 T.f__law_marks (spMarks K T.cs T.C_WebError) := by
  refine okG T.F__law_marks sc__law_marks (bd__law_marks T.F__law_marks) (fun vs H Q E h => ?_) (fun cdv A out s H vs Q E hr fr h => ?_)
  · obtain ⟨a, i, rfl, he, k⟩ := h
    rfl
  · obtain ⟨a, i, rfl, he, k⟩ := h
    refine ⟨_, (pss_cons (ps_set (i := 1) sc__law_marks.nd rfl (Or.inl rfl) (pe_lst (pa_cons (pe_callB call_isX2 (by rfl) T.b_isinstance (by decide +kernel) (pa_cons (pv 0) (pa_cons (pe_glob (v := .ref T.C_BadRatio) (by rfl) T.m_BadRatio rfl) pa_nil))) (pa_cons (pe_callB call_isX2 (by rfl) T.b_isinstance (by decide +kernel) (pa_cons (pv 0) (pa_cons (pe_glob (v := .ref T.C_NoRatio) (by rfl) T.m_NoRatio rfl) pa_nil))) (pa_cons (pe_callB call_isX2 (by rfl) T.b_isinstance (by decide +kernel) (pa_cons (pv 0) (pa_cons (pe_glob (v := .ref T.C_BadName) (by rfl) T.m_BadName rfl) pa_nil))) pa_nil)))))
 (pss_cons (ps_set (i := 1) sc__law_marks.nd rfl (Or.inl rfl) (pe_op op_cat (pv 1) (pe_lst (pa_cons (pe_callB call_isX2 (by rfl) T.b_isinstance (by decide +kernel) (pa_cons (pv 0) (pa_cons (pe_glob (v := .ref T.C_BadWeb) (by rfl) T.m_BadWeb rfl) pa_nil))) (pa_cons (pe_callB call_isX2 (by rfl) T.b_isinstance (by decide +kernel) (pa_cons (pv 0) (pa_cons (pe_glob (v := .ref T.C_NoName) (by rfl) T.m_NoName rfl) pa_nil))) (pa_cons (pe_callB call_isX2 (by rfl) T.b_isinstance (by decide +kernel) (pa_cons (pv 0) (pa_cons (pe_glob (v := .ref T.C_NotTied) (by rfl) T.m_NotTied rfl) pa_nil))) pa_nil))))))
 (pss_cons (ps_set (i := 1) sc__law_marks.nd rfl (Or.inl rfl) (pe_op op_cat (pv 1) (pe_lst (pa_cons (pe_callB call_isX2 (by rfl) T.b_isinstance (by decide +kernel) (pa_cons (pv 0) (pa_cons (pe_glob (v := .ref T.C_NotPlain) (by rfl) T.m_NotPlain rfl) pa_nil))) (pa_cons (pe_callB call_isX2 (by rfl) T.b_isinstance (by decide +kernel) (pa_cons (pv 0) (pa_cons (pe_glob (v := .ref T.C_BadValue) (by rfl) T.m_BadValue rfl) pa_nil))) (pa_cons (pe_callB call_isX2 (by rfl) T.b_isinstance (by decide +kernel) (pa_cons (pv 0) (pa_cons (pe_glob (v := .ref T.C_NoValue) (by rfl) T.m_NoValue rfl) pa_nil))) pa_nil))))))
 (pss_cons (ps_set (i := 1) sc__law_marks.nd rfl (Or.inl rfl) (pe_op op_cat (pv 1) (pe_lst (pa_cons (pe_callB call_isX2 (by rfl) T.b_isinstance (by decide +kernel) (pa_cons (pv 0) (pa_cons (pe_glob (v := .ref T.C_BadTree) (by rfl) T.m_BadTree rfl) pa_nil))) (pa_cons (pe_callB call_isX2 (by rfl) T.b_isinstance (by decide +kernel) (pa_cons (pv 0) (pa_cons (pe_glob (v := .ref T.C_BadStream) (by rfl) T.m_BadStream rfl) pa_nil))) (pa_cons (pe_callB call_isX2 (by rfl) T.b_isinstance (by decide +kernel) (pa_cons (pv 0) (pa_cons (pe_glob (v := .ref T.C_BadHeights) (by rfl) T.m_BadHeights rfl) pa_nil))) pa_nil))))))
 (pss_cons (ps_set (i := 1) sc__law_marks.nd rfl (Or.inl rfl) (pe_op op_cat (pv 1) (pe_lst (pa_cons (pe_callB call_isX2 (by rfl) T.b_isinstance (by decide +kernel) (pa_cons (pv 0) (pa_cons (pe_glob (v := .ref T.C_NoTurn) (by rfl) T.m_NoTurn rfl) pa_nil))) (pa_cons (pe_callB call_isX2 (by rfl) T.b_isinstance (by decide +kernel) (pa_cons (pv 0) (pa_cons (pe_glob (v := .ref T.C_TooMany) (by rfl) T.m_TooMany rfl) pa_nil))) (pa_cons (pe_callB call_isX2 (by rfl) T.b_isinstance (by decide +kernel) (pa_cons (pv 0) (pa_cons (pe_glob (v := .ref T.C_BadText) (by rfl) T.m_BadText rfl) pa_nil))) pa_nil))))))
 (pss_one (ps_ret (pe_op op_cat (pv 1) (pe_lst (pa_cons (pe_callB call_isX2 (by rfl) T.b_isinstance (by decide +kernel) (pa_cons (pv 0) (pa_cons (pe_glob (v := .ref T.C_Worse) (by rfl) T.m_Worse rfl) pa_nil))) (pa_cons (pe_callB call_isX2 (by rfl) T.b_isinstance (by decide +kernel) (pa_cons (pv 0) (pa_cons (pe_glob (v := .ref T.C_Barred) (by rfl) T.m_Barred rfl) pa_nil))) (pa_cons (pe_callB call_isX2 (by rfl) T.b_isinstance (by decide +kernel) (pa_cons (pv 0) (pa_cons (pe_glob (v := .ref T.C_NoLine) (by rfl) T.m_NoLine rfl) pa_nil))) pa_nil)))))))))))), ?_⟩
    obtain ⟨D, d, M, hx0, hd0⟩ := he
    have hx : ∀ {G}, Same H G → G a = some (HeldX (.ref D) d a) := fun s => s _ _ hx0
    have hd : ∀ {G}, Same H G → (d = none ∨ ∃ dd fs, d = some dd ∧ G dd = some (.xd fs)) := fun s => by
      rcases hd0 with h | ⟨dd, fs, h, e⟩
      · exact .inl h
      · exact .inr ⟨dd, fs, h, s _ _ e⟩
    have S0 := Same.refl H
    refine ⟨_, rfl, a, D, d, _, _, decide (i = 0), rfl, M.ex, hx S0, hd S0, fun _ z => z, M.ks 0 _ rfl, _, rfl, a, D, d, _, _, decide (i = 1), rfl, M.ex, hx S0, hd S0, fun _ z => z, M.ks 1 _ rfl, _, rfl, a, D, d, _, _, decide (i = 2), rfl, M.ex, hx S0, hd S0, fun _ z => z, M.ks 2 _ rfl, by show 3 ≤ sizeLine; decide, fun q0 n0 => ?_⟩
    have S1 := S0.trans (Same.new n0 (o := .lst [.bl (decide (i = 0)), .bl (decide (i = 1)), .bl (decide (i = 2))]))
    have hc := upd_same (H := H) (a := q0) (o := .lst [.bl (decide (i = 0)), .bl (decide (i = 1)), .bl (decide (i = 2))])
    refine ⟨_, rfl, _, rfl, a, D, d, _, _, decide (i = 3), rfl, M.ex, hx S1, hd S1, fun _ z => z, M.ks 3 _ rfl, _, rfl, a, D, d, _, _, decide (i = 4), rfl, M.ex, hx S1, hd S1, fun _ z => z, M.ks 4 _ rfl, _, rfl, a, D, d, _, _, decide (i = 5), rfl, M.ex, hx S1, hd S1, fun _ z => z, M.ks 5 _ rfl, by show 3 ≤ sizeLine; decide, fun q1 n1 => ?_⟩
    have S2 := S1.trans (Same.new n1 (o := .lst [.bl (decide (i = 3)), .bl (decide (i = 4)), .bl (decide (i = 5))]))
    refine ⟨_, _, _, _, rfl, rfl, hp_new hc n1, upd_same, by show 6 ≤ sizeLine; decide, fun z1 m1 => ?_⟩
    obtain ⟨S3, hc⟩ := cat_step (o := .lst ([.bl (decide (i = 0)), .bl (decide (i = 1)), .bl (decide (i = 2))] ++ [.bl (decide (i = 3)), .bl (decide (i = 4)), .bl (decide (i = 5))])) S2 m1
    refine ⟨_, rfl, _, rfl, a, D, d, _, _, decide (i = 6), rfl, M.ex, hx S3, hd S3, fun _ z => z, M.ks 6 _ rfl, _, rfl, a, D, d, _, _, decide (i = 7), rfl, M.ex, hx S3, hd S3, fun _ z => z, M.ks 7 _ rfl, _, rfl, a, D, d, _, _, decide (i = 8), rfl, M.ex, hx S3, hd S3, fun _ z => z, M.ks 8 _ rfl, by show 3 ≤ sizeLine; decide, fun q2 n2 => ?_⟩
    have S4 := S3.trans (Same.new n2 (o := .lst [.bl (decide (i = 6)), .bl (decide (i = 7)), .bl (decide (i = 8))]))
    refine ⟨_, _, _, _, rfl, rfl, hp_new hc n2, upd_same, by show 9 ≤ sizeLine; decide, fun z2 m2 => ?_⟩
    obtain ⟨S5, hc⟩ := cat_step (o := .lst (([.bl (decide (i = 0)), .bl (decide (i = 1)), .bl (decide (i = 2))] ++ [.bl (decide (i = 3)), .bl (decide (i = 4)), .bl (decide (i = 5))]) ++ [.bl (decide (i = 6)), .bl (decide (i = 7)), .bl (decide (i = 8))])) S4 m2
    refine ⟨_, rfl, _, rfl, a, D, d, _, _, decide (i = 9), rfl, M.ex, hx S5, hd S5, fun _ z => z, M.ks 9 _ rfl, _, rfl, a, D, d, _, _, decide (i = 10), rfl, M.ex, hx S5, hd S5, fun _ z => z, M.ks 10 _ rfl, _, rfl, a, D, d, _, _, decide (i = 11), rfl, M.ex, hx S5, hd S5, fun _ z => z, M.ks 11 _ rfl, by show 3 ≤ sizeLine; decide, fun q3 n3 => ?_⟩
    have S6 := S5.trans (Same.new n3 (o := .lst [.bl (decide (i = 9)), .bl (decide (i = 10)), .bl (decide (i = 11))]))
    refine ⟨_, _, _, _, rfl, rfl, hp_new hc n3, upd_same, by show 12 ≤ sizeLine; decide, fun z3 m3 => ?_⟩
    obtain ⟨S7, hc⟩ := cat_step (o := .lst ((([.bl (decide (i = 0)), .bl (decide (i = 1)), .bl (decide (i = 2))] ++ [.bl (decide (i = 3)), .bl (decide (i = 4)), .bl (decide (i = 5))]) ++ [.bl (decide (i = 6)), .bl (decide (i = 7)), .bl (decide (i = 8))]) ++ [.bl (decide (i = 9)), .bl (decide (i = 10)), .bl (decide (i = 11))])) S6 m3
    refine ⟨_, rfl, _, rfl, a, D, d, _, _, decide (i = 12), rfl, M.ex, hx S7, hd S7, fun _ z => z, M.ks 12 _ rfl, _, rfl, a, D, d, _, _, decide (i = 13), rfl, M.ex, hx S7, hd S7, fun _ z => z, M.ks 13 _ rfl, _, rfl, a, D, d, _, _, decide (i = 14), rfl, M.ex, hx S7, hd S7, fun _ z => z, M.ks 14 _ rfl, by show 3 ≤ sizeLine; decide, fun q4 n4 => ?_⟩
    have S8 := S7.trans (Same.new n4 (o := .lst [.bl (decide (i = 12)), .bl (decide (i = 13)), .bl (decide (i = 14))]))
    refine ⟨_, _, _, _, rfl, rfl, hp_new hc n4, upd_same, by show 15 ≤ sizeLine; decide, fun z4 m4 => ?_⟩
    obtain ⟨S9, hc⟩ := cat_step (o := .lst (((([.bl (decide (i = 0)), .bl (decide (i = 1)), .bl (decide (i = 2))] ++ [.bl (decide (i = 3)), .bl (decide (i = 4)), .bl (decide (i = 5))]) ++ [.bl (decide (i = 6)), .bl (decide (i = 7)), .bl (decide (i = 8))]) ++ [.bl (decide (i = 9)), .bl (decide (i = 10)), .bl (decide (i = 11))]) ++ [.bl (decide (i = 12)), .bl (decide (i = 13)), .bl (decide (i = 14))])) S8 m4
    refine ⟨_, rfl, _, rfl, a, D, d, _, _, decide (i = 15), rfl, M.ex, hx S9, hd S9, fun _ z => z, M.ks 15 _ rfl, _, rfl, a, D, d, _, _, decide (i = 16), rfl, M.ex, hx S9, hd S9, fun _ z => z, M.ks 16 _ rfl, _, rfl, a, D, d, _, _, decide (i = 17), rfl, M.ex, hx S9, hd S9, fun _ z => z, M.ks 17 _ rfl, by show 3 ≤ sizeLine; decide, fun q5 n5 => ?_⟩
    have S10 := S9.trans (Same.new n5 (o := .lst [.bl (decide (i = 15)), .bl (decide (i = 16)), .bl (decide (i = 17))]))
    refine ⟨_, _, _, _, rfl, rfl, hp_new hc n5, upd_same, by show 18 ≤ sizeLine; decide, fun z5 m5 => ?_⟩
    obtain ⟨S11, hc⟩ := cat_step (o := .lst ((((([.bl (decide (i = 0)), .bl (decide (i = 1)), .bl (decide (i = 2))] ++ [.bl (decide (i = 3)), .bl (decide (i = 4)), .bl (decide (i = 5))]) ++ [.bl (decide (i = 6)), .bl (decide (i = 7)), .bl (decide (i = 8))]) ++ [.bl (decide (i = 9)), .bl (decide (i = 10)), .bl (decide (i = 11))]) ++ [.bl (decide (i = 12)), .bl (decide (i = 13)), .bl (decide (i = 14))]) ++ [.bl (decide (i = 15)), .bl (decide (i = 16)), .bl (decide (i = 17))])) S10 m5
    exact k _ _ S11 hc
end
end RR
set_option maxHeartbeats 4000000
namespace RR
open PySem PySem.Spec PyProof.Rows L2
local macro_rules | `(tactic| walk_at "hp") => `(tactic| first | assumption | exact upd_same | (refine hp_new ?_ (by assumption); walk_at "hp") | (refine hp_mut ?_ (by first | assumption | (apply Ne.symm; assumption)); walk_at "hp") | (refine Same.at (by assumption) ?_; walk_at "hp"))
local macro_rules | `(tactic| walk_at "same") => `(tactic| first | exact fun _ _ z => z | assumption | (refine same_new ?_ (by assumption); walk_at "same") | (refine L2.Same.trans ?_ (by assumption); walk_at "same"))
local macro_rules | `(tactic| walk_at "sq") => `(tactic| exact SqL.of (by walk_at "hp"))
local macro_rules | `(tactic| walk_at "sqT") => `(tactic| exact SqT.of (by walk_at "hp"))

section
variable {P : Program} {w : World} {K : PySem.W.Frag} {mg : Str → Option Value} {base : Heap}
theorem g__law_is_alone (T : TX K mg) : FnG P w K mg base CX0 3 T.f__law_is_alone (spAloneE K T.cs T.C_WebError) := by
  refine okG T.F__law_is_alone sc__law_is_alone (bd__law_is_alone T.F__law_is_alone) (fun vs H Q E h => ?_) (fun cdv A out s H vs Q E hr fr h => ?_)
  · obtain ⟨a, i, rfl, i18, he, k⟩ := h
    rfl
  · obtain ⟨a, i, rfl, i18, he, k⟩ := h
    refine ⟨_, (pss_cons (ps_if (PW.pt (pw_or (pt_not (pt_val (pe_callB call_isX2 (by rfl) T.b_isinstance (by decide +kernel) (pa_cons (pv 0) (pa_cons (pe_glob (v := .ref T.C_WebError) (by rfl) T.m_WebError rfl) pa_nil))))) (pw_or1 (pt_not (pt_val (pe_callB call_isX2 (by rfl) T.b_isinstance (by decide +kernel) (pa_cons (pv 0) (pa_cons (pe_bltn (v := .ty "ValueError") (by rfl) T.b_ValueError (by decide +kernel) rfl) pa_nil)))))))) (pss_one (ps_ret pe_bl)) pss_nil)
 (pss_one (ps_ret (pe_cmpR (op_eqD hr.units) (pe_lc (own := [("_law_at", 2), ("_law_is_one", 3)]) (g := gTup K 2 (gCons (gName 2) (gCons (gName 3) gNil))) (by rfl) sc__law_is_alone.nd (pi_enum (by rfl) T.b_enumerate (pa_cons (pe_callG (g__law_marks T) (hr.mono (by decide)) fr (by rfl) T.m__law_marks T.F__law_marks.kp pass0 (pa_cons (pv 0) pa_nil)) pa_nil)) (blkOk_by (own := [("_law_at", 2), ("_law_is_one", 3)]) (N := N__law_is_alone) (sc := defScope s__law_is_alone) (by decide +kernel)) (fun _ _ _ _ _ => (pg_tup (by rfl) (pgs_cons (pg_name (i := 2) sc__law_is_alone.nd rfl (Or.inl rfl)) (pgs_cons (pg_name (i := 3) sc__law_is_alone.nd rfl (Or.inl rfl)) pgs_nil)))) (fun _ _ _ _ _ => (pts_one (pt_val (pv 3)))) (fun _ _ _ _ _ => (pv 2))) (pe_lst (pa_cons (pv 1) pa_nil)) (nomark _))))), ?_⟩
    obtain ⟨D, d, M, hx, hd⟩ := id he
    refine ⟨_, rfl, a, D, d, _, _, true, rfl, M.ex, hx, hd, fun _ z => z, M.we, _, rfl, ?_⟩
    refine iteF ?_
    refine ⟨_, rfl, a, D, d, _, _, true, rfl, M.ex, hx, hd, fun _ z => z, M.ve, _, rfl, ?_⟩
    refine iteF ?_
    refine ⟨_, rfl, a, i, rfl, he, fun q G s hq => ?_⟩
    refine ⟨q, marksL i, rfl, SqL.of hq, fun L nL => ?_⟩
    have len : (marksL i).length = 18 := rfl
    refine lc_it (walk_enum (K := K) (a := q) (xs := marksL i)) (fun n H' => Same G H' ∧ H' L = some (.lst (if i < n then [V.int (i : Int)] else []))) ⟨Same.new nL, upd_same⟩ (fun n H' _ z => SqL.of (z.1 _ _ hq)) ?_ ?_
    · rintro n H' x H2 hn ⟨s2, hL⟩ ⟨T2, x1, y1, rfl, nT, rfl, e1, e2⟩
      cases e1
      rw [len] at hn
      have ey : y1 = .bl (decide (i = n)) := by
        have z : (marksL i)[n]? = some (.bl (decide (i = n))) := by
          unfold marksL
          rw [List.getElem?_map, List.getElem?_range hn]
          rfl
        exact (Option.some.inj (z.symm.trans e2)).symm
      subst ey
      have s3 := s2.trans (Same.new nT (o := .tup [.int (n : Int), .bl (decide (i = n))]))
      have hL3 := hp_new (o := .tup [.int (n : Int), .bl (decide (i = n))]) hL nT
      refine ⟨T2, _, rfl, SqT.of upd_same, rfl, _, _, rfl, _, _, rfl, rfl, ?_⟩
      refine ⟨rfl, ?_⟩
      refine ⟨_, rfl, _, rfl, ?_⟩
      by_cases z : i = n
      · rw [show decide (i = n) = true from decide_eq_true z] at s3 hL3 ⊢
        subst z
        refine iteT ?_
        rw [if_neg (Nat.lt_irrefl _)] at hL3
        refine ⟨_, rfl, [], hL3, by rw [sizeLine_eq]; decide, same_mut s3 nL, ?_⟩
        rw [upd_same, if_pos (Nat.lt_succ_self _)]
        rfl
      · rw [show decide (i = n) = false from decide_eq_false z] at s3 hL3 ⊢
        refine iteF ?_
        refine ⟨s3, hL3.trans ?_⟩
        by_cases y : i < n
        · rw [if_pos y, if_pos (by omega)]
        · rw [if_neg y, if_neg (by omega)]
    · rintro H' ⟨s2, hL⟩
      rw [if_pos (by rw [len]; exact i18)] at hL
      refine ⟨_, rfl, by show 1 ≤ sizeLine; decide, fun q2 n2 => ?_⟩
      refine ⟨.list [.int (i : Int)], .list [.int (i : Int)], .lst (SqL.of (hp_new hL n2)) (.cons (.int _) .nil), .lst (SqL.of upd_same) (.cons (.int _) .nil), ?_, ?_, ?_⟩
      · show (PyData.canLayAll0 [.int (i : Int)] && _) = true
        simp [PyData.canLayAll0, PyData.canLay0, PyData.depthAll, PyData.depth, PyData.depth]
      · show (PyData.canLayAll0 [.int (i : Int)] && _) = true
        simp [PyData.canLayAll0, PyData.canLay0, PyData.depthAll, PyData.depth, PyData.depth]
      rw [show PyData.eqv (.list [.int (i : Int)]) (.list [.int (i : Int)]) = true from by simp [PyData.eqv, PyData.eqvAll]]
      exact k _ (s.trans (s2.trans (Same.new n2)))
theorem g__law_value (T : TX K mg) : FnG P w K mg base CX0 3 T.f__law_value (spValue K) := by
  refine okG T.F__law_value sc__law_value (bd__law_value T.F__law_value) (fun vs H Q E h => ?_) (fun cdv A out s H vs Q E hr fr h => ?_)
  · obtain ⟨p, c, ns, a, g, rfl, W, ha, k⟩ := h
    rfl
  · obtain ⟨p, c, ns, a, g, rfl, W, ha, k⟩ := h
    refine ⟨_, (pss_cons (ps_set (i := 1) sc__law_value.nd rfl (Or.inl rfl) (pe_lst (pa_cons pe_non (pa_cons pe_bl (pa_cons pe_int (pa_cons (pe_un un_neg pe_int) (pa_cons (pe_op op_pow pe_int pe_int) (pa_cons pe_str (pa_cons pe_str (pa_cons pe_str (pa_cons (pe_tup pa_nil) (pa_cons (pe_tup (pa_cons pe_str (pa_cons pe_str pa_nil))) (pa_cons (pe_lstB (pa_cons pe_int pa_nil)) (pa_cons pe_dnewK (pa_cons (pe_disp (pps_cons pe_str (pe_lstB (pa_cons pe_int pa_nil)) pps_nil) (by rfl) (by rfl) (by decide) (by decide)) (pa_cons (pe_tup (pa_cons (pe_tup pa_nil) pa_nil)) pa_nil))))))))))))))))
 (pss_one (ps_ret (pe_callG (g__law_pick T) (hr.mono (by decide)) fr (by rfl) T.m__law_pick T.F__law_pick.kp pass0 (pa_cons (pv 0) (pa_cons (pv 1) pa_nil)))))), ?_⟩
    refine ⟨_, rfl, _, _, rfl, rfl, ⟨by decide, by decide, by decide⟩, by show 0 ≤ sizeLine; decide, fun q1 n1 => ?_⟩
    refine ⟨by show 2 ≤ sizeLine; decide, fun q2 n2 => ?_⟩
    refine ⟨by show 1 ≤ sizeLine; decide, fun q3 m3 n3 => ?_⟩
    refine fun q4 n4 => ?_
    refine fun q5 n5 => ?_
    refine ⟨by show 1 ≤ sizeLine; decide, fun q6 m6 n6 => ?_⟩
    refine ⟨hp_new upd_same n6, [(.inr "a", .ref q6)], rfl, by show 1 ≤ 15; decide, ?_⟩
    refine ⟨by show 0 ≤ sizeLine; decide, fun q7 n7 => ?_⟩
    refine ⟨by show 1 ≤ sizeLine; decide, fun q8 n8 => ?_⟩
    refine ⟨by show 14 ≤ sizeLine; decide, fun q9 n9 => ?_⟩
    have S1 := Same.new n1 (o := .tup [])
    have S2 := S1.trans (Same.new n2 (o := .tup [.str "a", .str "b"]))
    have S3 := S2.trans (Same.new n3 (o := .lst [.int 1]))
    have S4 := S3.trans (Same.new n4 (o := .dK []))
    have S5 := S4.trans (Same.new n5 (o := .dK []))
    have S6 := S5.trans (Same.new n6 (o := .lst [.int 2]))
    have z5 : H q5 = none := S4.free n5
    have S7 := same_mut (o := .dK [(.inr "a", .ref q6)]) S6 z5
    have S8 := S7.trans (Same.new n7 (o := .tup []))
    have S9 := S8.trans (Same.new n8 (o := .tup [.ref q7]))
    have np : ∀ {G : Hp} {q : Addr}, Same H G → G q = none → q ≠ p := fun s n => (ne_of_none (s _ _ W.pn) n).symm
    have p1 := np (Same.refl H) n1
    have p2 := np S1 n2
    have p3 := np S2 n3
    have p4 := np S3 n4
    have p5 := np S4 n5
    have p6 := np S5 n6
    have p7 := np S7 n7
    have p8 := np S8 n8
    have p9 := np S9 n9
    have g1 := hp_new (o := .dK []) (hp_new (o := .lst [.int 1]) (hp_new (o := .tup [.str "a", .str "b"]) (upd_same (H := H) (a := q1) (o := .tup [])) n2) n3) n4
    have g2 := hp_new (o := .dK []) (hp_new (o := .lst [.int 1]) (upd_same (H := upd H q1 (.tup [])) (a := q2) (o := .tup [.str "a", .str "b"])) n3) n4
    have g3 := hp_new (o := .dK []) (upd_same (H := upd (upd H q1 (.tup [])) q2 (.tup [.str "a", .str "b"])) (a := q3) (o := .lst [.int 1])) n4
    have g4 := upd_same (H := upd (upd (upd H q1 (.tup [])) q2 (.tup [.str "a", .str "b"])) q3 (.lst [.int 1])) (a := q4) (o := .dK [])
    generalize upd (upd (upd (upd H q1 (.tup [])) q2 (.tup [.str "a", .str "b"])) q3 (.lst [.int 1])) q4 (.dK []) = H4 at g1 g2 g3 g4 S4 S5 S6 S7 S8 S9 n5 n6 n7 n8 n9 ⊢
    have up7 : ∀ {b o}, H4 b = some o → upd (upd (upd H4 q5 (.dK [])) q6 (.lst [.int 2])) q5 (.dK [(.inr "a", .ref q6)]) b = some o := fun e => (upd_ne (ne_of_none e n5)).trans (hp_new (hp_new e n5) n6)
    have e65 : q6 ≠ q5 := (ne_of_none (upd_same (H := H4) (a := q5) (o := .dK [])) n6).symm
    have g1 := up7 g1
    have g2 := up7 g2
    have g3 := up7 g3
    have g4 := up7 g4
    have g5 := upd_same (H := upd (upd H4 q5 (.dK [])) q6 (.lst [.int 2])) (a := q5) (o := .dK [(.inr "a", .ref q6)])
    have g6 := (upd_ne (o := .dK [(.inr "a", .ref q6)]) e65).trans (upd_same (H := upd H4 q5 (.dK [])) (a := q6) (o := .lst [.int 2]))
    have hm : mergeK [] [((.inr "a" : Key), V.ref q6)] = [(.inr "a", .ref q6)] := rfl
    rw [hm] at n7 n8 n9 ⊢
    clear up7 S1 S2 S3 S5 S6
    generalize upd (upd (upd H4 q5 (.dK [])) q6 (.lst [.int 2])) q5 (.dK [(.inr "a", .ref q6)]) = H7 at g1 g2 g3 g4 g5 g6 S7 S8 S9 n7 n8 n9 ⊢
    have g7 := hp_new (o := .tup [.ref q7]) (upd_same (H := H7) (a := q7) (o := .tup [])) n8
    have g8 := upd_same (H := upd H7 q7 (.tup [])) (a := q8) (o := .tup [.ref q7])
    have up9 : ∀ {b o}, H7 b = some o → upd (upd H7 q7 (.tup [])) q8 (.tup [.ref q7]) b = some o := fun e => hp_new (hp_new e n7) n8
    have g1 := up9 g1
    have g2 := up9 g2
    have g3 := up9 g3
    have g4 := up9 g4
    have g5 := up9 g5
    have g6 := up9 g6
    clear up9 S7 S8
    generalize upd (upd H7 q7 (.tup [])) q8 (.tup [.ref q7]) = H9 at g1 g2 g3 g4 g5 g6 g7 g8 S9 n9 ⊢
    have AV : AllV (Val K (delH H9 p)) [.non, .bl true, .int 0, .int (-1), .int (10 ^ (29 : Int).toNat), .str "", .str "a", .str "abcdefghi", .ref q1, .ref q2, .ref q3, .ref q4, .ref q5, .ref q8] :=
      .cons ⟨_, .non, rfl, by decide, by decide +kernel⟩ (.cons ⟨_, .bl true, rfl, by decide, by decide +kernel⟩ (.cons ⟨_, .int 0, by decide +kernel, by decide, by decide +kernel⟩ (.cons ⟨_, .int (-1), by decide +kernel, by decide, by decide +kernel⟩ (.cons ⟨_, .int (10 ^ (29 : Int).toNat), by decide +kernel, by decide, by decide +kernel⟩
      (.cons ⟨_, .str "", rfl, by decide, by decide +kernel⟩ (.cons ⟨_, .str "a", rfl, by decide, by decide +kernel⟩ (.cons ⟨_, .str "abcdefghi", rfl, by decide, by decide +kernel⟩
      (.cons ⟨_, .tup (SqT.of (del_at g1 p1)) .nil, rfl, by decide, by decide +kernel⟩ (.cons ⟨_, .tup (SqT.of (del_at g2 p2)) (.cons (.str "a") (.cons (.str "b") .nil)), rfl, by decide, by decide +kernel⟩ (.cons ⟨_, .lst m3 (del_at g3 p3) (.cons (.int 1) .nil), by decide +kernel, by decide, by decide +kernel⟩
      (.cons ⟨_, .dic (del_at g4 p4) .nil, rfl, by decide, by decide +kernel⟩ (.cons ⟨_, .dic (del_at g5 p5) (.cons (.lst m6 (del_at g6 p6) (.cons (.int 2) .nil)) .nil), by decide +kernel, by decide, by decide +kernel⟩ (.cons ⟨_, .tup (SqT.of (del_at g8 p8)) (.cons (.tup (SqT.of (del_at g7 p7)) .nil) .nil), rfl, by decide, by decide +kernel⟩ .nil)))))))))))))
    generalize hxs : ([.non, .bl true, .int 0, .int (-1), .int (10 ^ (29 : Int).toNat), .str "", .str "a", .str "abcdefghi", .ref q1, .ref q2, .ref q3, .ref q4, .ref q5, .ref q8] : List V) = xs at AV
    have hl : xs.length = 14 := by rw [← hxs]; rfl
    have Z9 := Same.new n9 (o := .lst xs)
    refine ⟨_, rfl, _, rfl, p, q9, c, ns, a, g, xs, rfl, W.keep (S9.trans Z9), upd_same, p9, by rw [hl]; decide, by rw [hl]; decide, fun x a' g' H' hp' kp hx la lb => ?_⟩
    have V1 := (AV.mem x hx).same (del_same (Keep.of (Same.new n9 (o := .lst xs))))
    refine k x a' g' H' hp' ((Keep.of (S9.trans Z9)).trans kp) (V1.same (del_same kp)) la lb
theorem g__law_bare_right (T : TX K mg) : FnG P w K mg base CX0 4 T.f__law_bare_right (spBare) := by
  refine okG T.F__law_bare_right sc__law_bare_right (bd__law_bare_right T.F__law_bare_right) (fun vs H Q E h => ?_) (fun cdv A out s H vs Q E hr fr h => ?_)
  · obtain ⟨rfl, k⟩ := h
    rfl
  · obtain ⟨rfl, k⟩ := h
    refine ⟨_, (pss_cons (ps_if (PW.pt (pw_or (pt_not (pt_val (pe_callG (g__law_is_alone T) (hr.mono (by decide)) fr (by rfl) T.m__law_is_alone T.F__law_is_alone.kp pass0 (pa_cons (pe_mk0 PySem.F.excBase_ValueError T.x0_NoRatio T.m_NoRatio T.k0_NoRatio (by rfl)) (pa_cons pe_int pa_nil))))) (pw_or (pt_not (pt_val (pe_callG (g__law_is_alone T) (hr.mono (by decide)) fr (by rfl) T.m__law_is_alone T.F__law_is_alone.kp pass0 (pa_cons (pe_mk0 PySem.F.excBase_ValueError T.x0_NotTied T.m_NotTied T.k0_NotTied (by rfl)) (pa_cons pe_int pa_nil))))) (pw_or1 (pt_not (pt_val (pe_callG (g__law_is_alone T) (hr.mono (by decide)) fr (by rfl) T.m__law_is_alone T.F__law_is_alone.kp pass0 (pa_cons (pe_mk0 PySem.F.excBase_ValueError T.x0_BadTree T.m_BadTree T.k0_BadTree (by rfl)) (pa_cons pe_int pa_nil))))))))) (pss_one (ps_ret pe_bl)) pss_nil)
 (pss_cons (ps_if (PW.pt (pw_or (pt_not (pt_val (pe_callG (g__law_is_alone T) (hr.mono (by decide)) fr (by rfl) T.m__law_is_alone T.F__law_is_alone.kp pass0 (pa_cons (pe_mk0 PySem.F.excBase_ValueError T.x0_BadStream T.m_BadStream T.k0_BadStream (by rfl)) (pa_cons pe_int pa_nil))))) (pw_or1 (pt_not (pt_val (pe_callG (g__law_is_alone T) (hr.mono (by decide)) fr (by rfl) T.m__law_is_alone T.F__law_is_alone.kp pass0 (pa_cons (pe_mk0 PySem.F.excBase_ValueError T.x0_BadHeights T.m_BadHeights T.k0_BadHeights (by rfl)) (pa_cons pe_int pa_nil)))))))) (pss_one (ps_ret pe_bl)) pss_nil)
 (pss_one (ps_ret (pe_callG (g__law_is_alone T) (hr.mono (by decide)) fr (by rfl) T.m__law_is_alone T.F__law_is_alone.kp pass0 (pa_cons (pe_mk0 PySem.F.excBase_ValueError T.x0_NoLine T.m_NoLine T.k0_NoLine (by rfl)) (pa_cons pe_int pa_nil))))))), ?_⟩
    have S := Same.refl H
    refine fun a1 na1 => ?_
    have Z1 := S.trans (Same.new na1 (o := HeldX (.ref T.C_NoRatio) none a1))
    have e1 := err_new0 T.mk_NoRatio na1
    clear S
    generalize upd _ a1 (HeldX (.ref T.C_NoRatio) none a1) = K1 at Z1 e1 ⊢
    have S := Z1
    clear Z1
    refine ⟨a1, 1, rfl, by decide, e1, fun G1 s1 => ?_⟩
    refine ⟨_, rfl, ?_⟩
    refine iteF ?_
    have S := S.trans s1
    refine fun a2 na2 => ?_
    have Z2 := S.trans (Same.new na2 (o := HeldX (.ref T.C_NotTied) none a2))
    have e2 := err_new0 T.mk_NotTied na2
    clear S
    generalize upd _ a2 (HeldX (.ref T.C_NotTied) none a2) = K2 at Z2 e2 ⊢
    have S := Z2
    clear Z2
    refine ⟨a2, 5, rfl, by decide, e2, fun G2 s2 => ?_⟩
    refine ⟨_, rfl, ?_⟩
    refine iteF ?_
    have S := S.trans s2
    refine fun a3 na3 => ?_
    have Z3 := S.trans (Same.new na3 (o := HeldX (.ref T.C_BadTree) none a3))
    have e3 := err_new0 T.mk_BadTree na3
    clear S
    generalize upd _ a3 (HeldX (.ref T.C_BadTree) none a3) = K3 at Z3 e3 ⊢
    have S := Z3
    clear Z3
    refine ⟨a3, 9, rfl, by decide, e3, fun G3 s3 => ?_⟩
    refine ⟨_, rfl, ?_⟩
    refine iteF ?_
    have S := S.trans s3
    refine fun a4 na4 => ?_
    have Z4 := S.trans (Same.new na4 (o := HeldX (.ref T.C_BadStream) none a4))
    have e4 := err_new0 T.mk_BadStream na4
    clear S
    generalize upd _ a4 (HeldX (.ref T.C_BadStream) none a4) = K4 at Z4 e4 ⊢
    have S := Z4
    clear Z4
    refine ⟨a4, 10, rfl, by decide, e4, fun G4 s4 => ?_⟩
    refine ⟨_, rfl, ?_⟩
    refine iteF ?_
    have S := S.trans s4
    refine fun a5 na5 => ?_
    have Z5 := S.trans (Same.new na5 (o := HeldX (.ref T.C_BadHeights) none a5))
    have e5 := err_new0 T.mk_BadHeights na5
    clear S
    generalize upd _ a5 (HeldX (.ref T.C_BadHeights) none a5) = K5 at Z5 e5 ⊢
    have S := Z5
    clear Z5
    refine ⟨a5, 11, rfl, by decide, e5, fun G5 s5 => ?_⟩
    refine ⟨_, rfl, ?_⟩
    refine iteF ?_
    have S := S.trans s5
    refine fun a6 na6 => ?_
    have Z6 := S.trans (Same.new na6 (o := HeldX (.ref T.C_NoLine) none a6))
    have e6 := err_new0 T.mk_NoLine na6
    clear S
    generalize upd _ a6 (HeldX (.ref T.C_NoLine) none a6) = K6 at Z6 e6 ⊢
    have S := Z6
    clear Z6
    exact ⟨a6, 17, rfl, by decide, e6, fun G s => k G (S.trans s)⟩
end
end RR
set_option maxHeartbeats 4000000
namespace RR
open PySem PySem.Spec PyProof.Rows L2
local macro_rules | `(tactic| walk_at "hp") => `(tactic| first | assumption | exact upd_same | (refine hp_new ?_ (by assumption); walk_at "hp") | (refine hp_mut ?_ (by first | assumption | (apply Ne.symm; assumption)); walk_at "hp") | (refine Same.at (by assumption) ?_; walk_at "hp"))
local macro_rules | `(tactic| walk_at "same") => `(tactic| first | exact fun _ _ z => z | assumption | (refine same_new ?_ (by assumption); walk_at "same") | (refine L2.Same.trans ?_ (by assumption); walk_at "same"))
local macro_rules | `(tactic| walk_at "sq") => `(tactic| exact SqL.of (by walk_at "hp"))
local macro_rules | `(tactic| walk_at "sqT") => `(tactic| exact SqT.of (by walk_at "hp"))

section
variable {P : Program} {w : World} {K : PySem.W.Frag} {mg : Str → Option Value} {base : Heap}
theorem g__law_right (T : TX K mg) : FnG P w K mg base CX0 6 T.f__law_right (spRightX K) := by
  refine okG T.F__law_right sc__law_right (bd__law_right T.F__law_right) (fun vs H Q E h => ?_) (fun cdv A out s H vs Q E hr fr h => ?_)
  · obtain ⟨v, w2, rfl, hv, hw, k⟩ := h
    rfl
  · obtain ⟨v, w2, rfl, hv, hw, k⟩ := h
    refine ⟨_, (pss_cons (ps_set (i := 2) sc__law_right.nd rfl (Or.inl rfl) (pe_lst (pa_cons (pe_mkLowA T.low_BadRatio hr (pa_cons (pv 0) pa_nil) (by rfl)) (pa_cons (pe_mkLowA T.low_BadWeb hr (pa_cons (pv 0) pa_nil) (by rfl)) (pa_cons (pe_mkLowA T.low_NoTurn hr (pa_cons (pv 0) pa_nil) (by rfl)) (pa_cons (pe_mkLowA T.low_BadText hr (pa_cons (pv 0) pa_nil) (by rfl)) pa_nil))))))
 (pss_cons (ps_if (pt_cmpR op_ne (pe_callB (call_reprQ (n := 300000) (by decide) hr.units fr) (by rfl) T.b_repr (by decide +kernel) (pa_cons (pe_lc (own := [("_law_error", 3)]) (g := gName 3) (tt := tYes) (by rfl) sc__law_right.nd (pi_list (pv 2)) (blkOk_by (own := [("_law_error", 3)]) (N := N__law_right) (sc := defScope s__law_right) (by decide +kernel)) (fun _ _ _ _ _ => (pg_name (i := 3) sc__law_right.nd rfl (Or.inl rfl))) (fun _ _ _ _ _ => pts_nil) (fun _ _ _ _ _ => (show PE _ _ (tAtQ K "at" (tVar 3)) from pe_atQ (pv 3)))) pa_nil)) (pe_callB (call_reprQ (n := 300000) (by decide) hr.units fr) (by rfl) T.b_repr (by decide +kernel) (pa_cons (pe_op op_rep (pe_lst (pa_cons (pv 0) pa_nil)) pe_int) pa_nil)) (nomark _)) (pss_one (ps_ret pe_bl)) pss_nil)
 (pss_cons (ps_set (i := 4) sc__law_right.nd rfl (Or.inl rfl) (pe_lst (pa_cons (pe_mkLowN T.low_BadName hr (pa_cons (pv 0) pa_nil) (by rfl)) (pa_cons (pe_mkLowN T.low_NoName hr (pa_cons (pv 0) pa_nil) (by rfl)) (pa_cons (pe_mkLowN T.low_NotPlain hr (pa_cons (pv 0) pa_nil) (by rfl)) (pa_cons (pe_mkLowN T.low_BadValue hr (pa_cons (pv 0) pa_nil) (by rfl)) (pa_cons (pe_mkLowN T.low_NoValue hr (pa_cons (pv 0) pa_nil) (by rfl)) pa_nil)))))))
 (pss_cons (ps_if (pt_cmpR op_ne (pe_callB (call_reprQ (n := 300000) (by decide) hr.units fr) (by rfl) T.b_repr (by decide +kernel) (pa_cons (pe_lc (own := [("_law_error", 3)]) (g := gName 3) (tt := tYes) (by rfl) sc__law_right.nd (pi_list (pv 4)) (blkOk_by (own := [("_law_error", 3)]) (N := N__law_right) (sc := defScope s__law_right) (by decide +kernel)) (fun _ _ _ _ _ => (pg_name (i := 3) sc__law_right.nd rfl (Or.inl rfl))) (fun _ _ _ _ _ => pts_nil) (fun _ _ _ _ _ => (show PE _ _ (tAtQ K "name" (tVar 3)) from pe_atQ (pv 3)))) pa_nil)) (pe_callB (call_reprQ (n := 300000) (by decide) hr.units fr) (by rfl) T.b_repr (by decide +kernel) (pa_cons (pe_op op_rep (pe_lst (pa_cons (pv 0) pa_nil)) pe_int) pa_nil)) (nomark _)) (pss_one (ps_ret pe_bl)) pss_nil)
 (pss_cons (ps_for PassesOwn.never rfl (pi_zip (by rfl) T.b_zip (pa_cons (pe_op op_cat (pv 2) (pv 4)) (pa_cons (pe_lst (pa_cons pe_int (pa_cons pe_int (pa_cons pe_int (pa_cons pe_int (pa_cons pe_int (pa_cons pe_int (pa_cons pe_int (pa_cons pe_int (pa_cons pe_int pa_nil)))))))))) pa_nil))) (pg_tup (by rfl) (pgs_cons (pg_name (i := 3) sc__law_right.nd rfl (Or.inl rfl)) (pgs_cons (pg_name (i := 5) sc__law_right.nd rfl (Or.inl rfl)) pgs_nil)))
 (pss_one (ps_if (pt_not (pt_val (pe_callG (g__law_is_alone T) (hr.mono (by decide)) fr (by rfl) T.m__law_is_alone T.F__law_is_alone.kp pass0 (pa_cons (pv 3) (pa_cons (pv 5) pa_nil))))) (pss_one (ps_ret pe_bl)) pss_nil)))
 (pss_cons (ps_par3 (i := 6) (j := 7) (l := 8) (by rfl) sc__law_right.nd rfl rfl rfl (by decide) (by decide) (by decide) rfl rfl rfl (pa_cons (pe_mkW T.low_Worse hr (pa_cons (pv 0) (pa_cons (pv 1) pa_nil)) (by rfl)) (pa_cons (pe_mkLowC T.low_Barred hr (pa_cons (pv 0) pa_nil) (by rfl)) (pa_cons (pe_mkLowM T.low_TooMany hr (pa_cons (pv 0) pa_nil) (by rfl)) pa_nil))) (by rfl))
 (pss_cons (ps_if (pt_cmpR op_ne (pe_callB (call_reprQ (n := 300000) (by decide) hr.units fr) (by rfl) T.b_repr (by decide +kernel) (pa_cons (pe_lst (pa_cons (pe_atQ (pv 6)) (pa_cons (pe_atQ (pv 6)) (pa_cons (pe_atQ (pv 7)) (pa_cons (pe_atQ (pv 8)) pa_nil))))) pa_nil)) (pe_callB (call_reprQ (n := 300000) (by decide) hr.units fr) (by rfl) T.b_repr (by decide +kernel) (pa_cons (pe_lst (pa_cons (pv 0) (pa_cons (pv 1) (pa_cons (pv 0) (pa_cons (pv 0) pa_nil))))) pa_nil)) (nomark _)) (pss_one (ps_ret pe_bl)) pss_nil)
 (pss_one (ps_ret (pe_and (pe_callG (g__law_is_alone T) (hr.mono (by decide)) fr (by rfl) T.m__law_is_alone T.F__law_is_alone.kp pass0 (pa_cons (pv 6) (pa_cons pe_int pa_nil))) (pe_and (pe_callG (g__law_is_alone T) (hr.mono (by decide)) fr (by rfl) T.m__law_is_alone T.F__law_is_alone.kp pass0 (pa_cons (pv 7) (pa_cons pe_int pa_nil))) (pe_one (pe_callG (g__law_is_alone T) (hr.mono (by decide)) fr (by rfl) T.m__law_is_alone T.F__law_is_alone.kp pass0 (pa_cons (pv 8) (pa_cons pe_int pa_nil))))))))))))))), ?_⟩
    obtain ⟨d, dq, sh⟩ := hv
    obtain ⟨dw, dq2, sh2⟩ := hw
    have S := Same.refl H
    refine ⟨_, rfl, v, rfl, fun a1 d1 nd1 na1 ne1 => ?_⟩
    obtain ⟨G1, hG1, s1, E1⟩ := err_new (K := K) (cs := T.cs) (W := T.C_WebError) (fs := [("at", v)]) T.mk_BadRatio (one_fld T.low_BadRatio.noN) nd1 na1 ne1
    rw [← hG1]
    have S := S.trans s1
    clear hG1 nd1 na1 ne1
    clear s1
    refine ⟨_, rfl, v, rfl, fun a2 d2 nd2 na2 ne2 => ?_⟩
    obtain ⟨G2, hG2, s2, E2⟩ := err_new (K := K) (cs := T.cs) (W := T.C_WebError) (fs := [("at", v)]) T.mk_BadWeb (one_fld T.low_BadWeb.noN) nd2 na2 ne2
    rw [← hG2]
    have E1 := E1.same s2
    have S := S.trans s2
    clear hG2 nd2 na2 ne2
    clear s2
    refine ⟨_, rfl, v, rfl, fun a3 d3 nd3 na3 ne3 => ?_⟩
    obtain ⟨G3, hG3, s3, E3⟩ := err_new (K := K) (cs := T.cs) (W := T.C_WebError) (fs := [("at", v)]) T.mk_NoTurn (one_fld T.low_NoTurn.noN) nd3 na3 ne3
    rw [← hG3]
    have E1 := E1.same s3
    have E2 := E2.same s3
    have S := S.trans s3
    clear hG3 nd3 na3 ne3
    clear s3
    refine ⟨_, rfl, v, rfl, fun a4 d4 nd4 na4 ne4 => ?_⟩
    obtain ⟨G4, hG4, s4, E4⟩ := err_new (K := K) (cs := T.cs) (W := T.C_WebError) (fs := [("at", v)]) T.mk_BadText (one_fld T.low_BadText.noN) nd4 na4 ne4
    rw [← hG4]
    have E1 := E1.same s4
    have E2 := E2.same s4
    have E3 := E3.same s4
    have S := S.trans s4
    clear hG4 nd4 na4 ne4
    clear s4
    refine ⟨by show 4 ≤ sizeLine; decide, fun L1 nL1 => ?_⟩
    obtain ⟨sL, hL1⟩ := cat_step (o := .lst [.ref a1, .ref a2, .ref a3, .ref a4]) (Same.refl _) nL1
    have E1 := E1.same sL
    have E2 := E2.same sL
    have E3 := E3.same sL
    have E4 := E4.same sL
    have S := S.trans sL
    clear sL
    generalize upd G4 L1 (.lst [.ref a1, .ref a2, .ref a3, .ref a4]) = FL1 at S hL1 E1 E2 E3 E4  ⊢
    have AVL1 : AllV (fun x => ∃ a k, x = .ref a ∧ ErrF K T.cs T.C_WebError FL1 a k [("at", v)]) [.ref a1, .ref a2, .ref a3, .ref a4] := .cons ⟨a1, _, rfl, E1⟩ (.cons ⟨a2, _, rfl, E2⟩ (.cons ⟨a3, _, rfl, E3⟩ (.cons ⟨a4, _, rfl, E4⟩ .nil)))
    generalize hxL1 : ([.ref a1, .ref a2, .ref a3, .ref a4] : List V) = xsL1 at AVL1 hL1 ⊢
    have lenL1 : xsL1.length = 4 := by rw [← hxL1]; rfl
    refine ⟨_, rfl, L1, rfl, ⟨xsL1, SqL.of hL1⟩, fun D1 nD1 => ?_⟩
    refine lc_list (xs := xsL1) (fun i H' => Same FL1 H' ∧ H' D1 = some (.lst (List.replicate i v))) ⟨Same.new nD1, upd_same⟩ (fun i H' _ z => SqL.of (z.1 _ _ hL1)) ?_ ?_
    · rintro i x H' hx ⟨s, hD⟩
      obtain ⟨a, kk, rfl, D2, dd, M, ha, hdd, nf⟩ := AVL1.mem x (List.mem_of_getElem? hx)
      have lk : List.lookup ("at" : Str) [(("at" : Str), v)] = some v := by simp [List.lookup]
      have hi : i < 4 := by rw [← lenL1]; exact (List.getElem?_eq_some_iff.mp hx).1
      refine ⟨rfl, _, rfl, a, D2, dd, _, v, rfl, M.ex, nf _ _ lk, s _ _ ha, s _ _ hdd, lk, ?_⟩
      refine ⟨_, hD, by rw [List.length_replicate, sizeLine_eq]; omega, same_mut s nD1, ?_⟩
      rw [upd_same, List.replicate_succ']
    rintro H' ⟨s, hD⟩
    rw [lenL1] at hD
    have SH : ShowsQ 300000 20 (.list [d, d, d, d]) := showsQ_list (.cons sh (.cons sh (.cons sh (.cons sh .nil)))) (by show 4 * 100 + 2 * 4 + 3 ≤ _; decide) (by decide)
    have DA : ∀ {G : Hp}, Same H G → DqAll K G [v, v, v, v] [d, d, d, d] := fun z => .cons (dq.same z) (.cons (dq.same z) (.cons (dq.same z) (.cons (dq.same z) .nil)))
    have S := S.trans s
    have E1 := E1.same s
    have E2 := E2.same s
    have E3 := E3.same s
    have E4 := E4.same s
    have hL1 := s _ _ hL1
    skip
    refine ⟨D1, _, _, rfl, hD, DA S, SH, ?_⟩
    clear s hD
    refine ⟨_, rfl, by show 1 ≤ sizeLine; decide, fun q1 n1 => ?_⟩
    refine ⟨q1, 4, _, rfl, rfl, upd_same, by decide, by decide, by show 1 * 4 ≤ sizeLine; decide, fun q2 n2 => ?_⟩
    obtain ⟨s, hq⟩ := cat_step (o := .lst (List.replicate (4 : Int).toNat [v]).flatten) (Same.new n1 (o := .lst [v])) n2
    have S := S.trans s
    have E1 := E1.same s
    have E2 := E2.same s
    have E3 := E3.same s
    have E4 := E4.same s
    have hL1 := s _ _ hL1
    skip
    generalize upd (upd H' q1 (.lst [v])) q2 (.lst (List.replicate (4 : Int).toNat [v]).flatten) = RL1 at S hq hL1 E1 E2 E3 E4  ⊢
    refine ⟨q2, _, _, rfl, hq, DA S, SH, rfl, _, rfl, ?_⟩
    rw [decide_eq_true rfl]
    refine iteF ?_
    clear s hq n1 n2 DA SH AVL1
    refine ⟨_, rfl, v, rfl, fun a5 d5 nd5 na5 ne5 => ?_⟩
    obtain ⟨G5, hG5, s5, E5⟩ := err_new (K := K) (cs := T.cs) (W := T.C_WebError) (fs := [("name", v)]) T.mk_BadName (one_fld T.low_BadName.noN) nd5 na5 ne5
    rw [← hG5]
    have E1 := E1.same s5
    have E2 := E2.same s5
    have E3 := E3.same s5
    have E4 := E4.same s5
    have S := S.trans s5
    clear hG5 nd5 na5 ne5
    have hL1 := s5 _ _ hL1
    clear s5
    refine ⟨_, rfl, v, rfl, fun a6 d6 nd6 na6 ne6 => ?_⟩
    obtain ⟨G6, hG6, s6, E6⟩ := err_new (K := K) (cs := T.cs) (W := T.C_WebError) (fs := [("name", v)]) T.mk_NoName (one_fld T.low_NoName.noN) nd6 na6 ne6
    rw [← hG6]
    have E1 := E1.same s6
    have E2 := E2.same s6
    have E3 := E3.same s6
    have E4 := E4.same s6
    have E5 := E5.same s6
    have S := S.trans s6
    clear hG6 nd6 na6 ne6
    have hL1 := s6 _ _ hL1
    clear s6
    refine ⟨_, rfl, v, rfl, fun a7 d7 nd7 na7 ne7 => ?_⟩
    obtain ⟨G7, hG7, s7, E7⟩ := err_new (K := K) (cs := T.cs) (W := T.C_WebError) (fs := [("name", v)]) T.mk_NotPlain (one_fld T.low_NotPlain.noN) nd7 na7 ne7
    rw [← hG7]
    have E1 := E1.same s7
    have E2 := E2.same s7
    have E3 := E3.same s7
    have E4 := E4.same s7
    have E5 := E5.same s7
    have E6 := E6.same s7
    have S := S.trans s7
    clear hG7 nd7 na7 ne7
    have hL1 := s7 _ _ hL1
    clear s7
    refine ⟨_, rfl, v, rfl, fun a8 d8 nd8 na8 ne8 => ?_⟩
    obtain ⟨G8, hG8, s8, E8⟩ := err_new (K := K) (cs := T.cs) (W := T.C_WebError) (fs := [("name", v)]) T.mk_BadValue (one_fld T.low_BadValue.noN) nd8 na8 ne8
    rw [← hG8]
    have E1 := E1.same s8
    have E2 := E2.same s8
    have E3 := E3.same s8
    have E4 := E4.same s8
    have E5 := E5.same s8
    have E6 := E6.same s8
    have E7 := E7.same s8
    have S := S.trans s8
    clear hG8 nd8 na8 ne8
    have hL1 := s8 _ _ hL1
    clear s8
    refine ⟨_, rfl, v, rfl, fun a9 d9 nd9 na9 ne9 => ?_⟩
    obtain ⟨G9, hG9, s9, E9⟩ := err_new (K := K) (cs := T.cs) (W := T.C_WebError) (fs := [("name", v)]) T.mk_NoValue (one_fld T.low_NoValue.noN) nd9 na9 ne9
    rw [← hG9]
    have E1 := E1.same s9
    have E2 := E2.same s9
    have E3 := E3.same s9
    have E4 := E4.same s9
    have E5 := E5.same s9
    have E6 := E6.same s9
    have E7 := E7.same s9
    have E8 := E8.same s9
    have S := S.trans s9
    clear hG9 nd9 na9 ne9
    have hL1 := s9 _ _ hL1
    clear s9
    refine ⟨by show 5 ≤ sizeLine; decide, fun L2 nL2 => ?_⟩
    obtain ⟨sL, hL2⟩ := cat_step (o := .lst [.ref a5, .ref a6, .ref a7, .ref a8, .ref a9]) (Same.refl _) nL2
    have E1 := E1.same sL
    have E2 := E2.same sL
    have E3 := E3.same sL
    have E4 := E4.same sL
    have E5 := E5.same sL
    have E6 := E6.same sL
    have E7 := E7.same sL
    have E8 := E8.same sL
    have E9 := E9.same sL
    have S := S.trans sL
    have hL1 := sL _ _ hL1
    clear sL
    generalize upd G9 L2 (.lst [.ref a5, .ref a6, .ref a7, .ref a8, .ref a9]) = FL2 at S hL2 E1 E2 E3 E4 E5 E6 E7 E8 E9 hL1 ⊢
    have AVL2 : AllV (fun x => ∃ a k, x = .ref a ∧ ErrF K T.cs T.C_WebError FL2 a k [("name", v)]) [.ref a5, .ref a6, .ref a7, .ref a8, .ref a9] := .cons ⟨a5, _, rfl, E5⟩ (.cons ⟨a6, _, rfl, E6⟩ (.cons ⟨a7, _, rfl, E7⟩ (.cons ⟨a8, _, rfl, E8⟩ (.cons ⟨a9, _, rfl, E9⟩ .nil))))
    generalize hxL2 : ([.ref a5, .ref a6, .ref a7, .ref a8, .ref a9] : List V) = xsL2 at AVL2 hL2 ⊢
    have lenL2 : xsL2.length = 5 := by rw [← hxL2]; rfl
    refine ⟨_, rfl, L2, rfl, ⟨xsL2, SqL.of hL2⟩, fun D2 nD2 => ?_⟩
    refine lc_list (xs := xsL2) (fun i H' => Same FL2 H' ∧ H' D2 = some (.lst (List.replicate i v))) ⟨Same.new nD2, upd_same⟩ (fun i H' _ z => SqL.of (z.1 _ _ hL2)) ?_ ?_
    · rintro i x H' hx ⟨s, hD⟩
      obtain ⟨a, kk, rfl, D2, dd, M, ha, hdd, nf⟩ := AVL2.mem x (List.mem_of_getElem? hx)
      have lk : List.lookup ("name" : Str) [(("name" : Str), v)] = some v := by simp [List.lookup]
      have hi : i < 5 := by rw [← lenL2]; exact (List.getElem?_eq_some_iff.mp hx).1
      refine ⟨rfl, _, rfl, a, D2, dd, _, v, rfl, M.ex, nf _ _ lk, s _ _ ha, s _ _ hdd, lk, ?_⟩
      refine ⟨_, hD, by rw [List.length_replicate, sizeLine_eq]; omega, same_mut s nD2, ?_⟩
      rw [upd_same, List.replicate_succ']
    rintro H' ⟨s, hD⟩
    rw [lenL2] at hD
    have SH : ShowsQ 300000 20 (.list [d, d, d, d, d]) := showsQ_list (.cons sh (.cons sh (.cons sh (.cons sh (.cons sh .nil))))) (by show 5 * 100 + 2 * 5 + 3 ≤ _; decide) (by decide)
    have DA : ∀ {G : Hp}, Same H G → DqAll K G [v, v, v, v, v] [d, d, d, d, d] := fun z => .cons (dq.same z) (.cons (dq.same z) (.cons (dq.same z) (.cons (dq.same z) (.cons (dq.same z) .nil))))
    have S := S.trans s
    have E1 := E1.same s
    have E2 := E2.same s
    have E3 := E3.same s
    have E4 := E4.same s
    have E5 := E5.same s
    have E6 := E6.same s
    have E7 := E7.same s
    have E8 := E8.same s
    have E9 := E9.same s
    have hL2 := s _ _ hL2
    have hL1 := s _ _ hL1
    refine ⟨D2, _, _, rfl, hD, DA S, SH, ?_⟩
    clear s hD
    refine ⟨_, rfl, by show 1 ≤ sizeLine; decide, fun q1 n1 => ?_⟩
    refine ⟨q1, 5, _, rfl, rfl, upd_same, by decide, by decide, by show 1 * 5 ≤ sizeLine; decide, fun q2 n2 => ?_⟩
    obtain ⟨s, hq⟩ := cat_step (o := .lst (List.replicate (5 : Int).toNat [v]).flatten) (Same.new n1 (o := .lst [v])) n2
    have S := S.trans s
    have E1 := E1.same s
    have E2 := E2.same s
    have E3 := E3.same s
    have E4 := E4.same s
    have E5 := E5.same s
    have E6 := E6.same s
    have E7 := E7.same s
    have E8 := E8.same s
    have E9 := E9.same s
    have hL2 := s _ _ hL2
    have hL1 := s _ _ hL1
    generalize upd (upd H' q1 (.lst [v])) q2 (.lst (List.replicate (5 : Int).toNat [v]).flatten) = RL2 at S hq hL2 E1 E2 E3 E4 E5 E6 E7 E8 E9 hL1 ⊢
    refine ⟨q2, _, _, rfl, hq, DA S, SH, rfl, _, rfl, ?_⟩
    rw [decide_eq_true rfl]
    refine iteF ?_
    clear s hq n1 n2 DA SH AVL2
    subst hxL1 hxL2
    clear lenL1 lenL2 nD1 nD2 nL1 nL2
    refine ⟨_, rfl, _, rfl, _, _, _, _, rfl, rfl, hL1, hL2, by show 9 ≤ sizeLine; decide, fun z1 m1 => ?_⟩
    refine ⟨by show 9 ≤ sizeLine; decide, fun z2 m2 => ?_⟩
    obtain ⟨s1, f1⟩ := cat_step (o := .lst ([.ref a1, .ref a2, .ref a3, .ref a4] ++ [.ref a5, .ref a6, .ref a7, .ref a8, .ref a9])) (Same.refl _) m1
    obtain ⟨s2, f2⟩ := cat_step (o := .lst [.int 0, .int 3, .int 12, .int 14, .int 2, .int 4, .int 6, .int 7, .int 8]) s1 m2
    have f1 := hp_new (o := .lst [.int 0, .int 3, .int 12, .int 14, .int 2, .int 4, .int 6, .int 7, .int 8]) f1 m2
    have S := S.trans s2
    have E1 := E1.same s2
    have E2 := E2.same s2
    have E3 := E3.same s2
    have E4 := E4.same s2
    have E5 := E5.same s2
    have E6 := E6.same s2
    have E7 := E7.same s2
    have E8 := E8.same s2
    have E9 := E9.same s2
    generalize upd (upd RL2 z1 (.lst ([.ref a1, .ref a2, .ref a3, .ref a4] ++ [.ref a5, .ref a6, .ref a7, .ref a8, .ref a9]))) z2 (.lst [.int 0, .int 3, .int 12, .int 14, .int 2, .int 4, .int 6, .int 7, .int 8]) = F at S f1 f2 E1 E2 E3 E4 E5 E6 E7 E8 E9 ⊢
    clear s1 s2 m1 m2 hL1 hL2
    refine ⟨z1, z2, _, _, rfl, SqL.of f1, SqL.of f2, ?_⟩
    refine for_it (walk_zip (K := K) (a := z1) (b := z2) (n := 9) rfl) (fun i σ H' => ∃ e s, σ = [some v, some w2, some (.ref L1), e, some (.ref L2), s, none, none, none] ∧ Same F H') ⟨_, _, rfl, Same.refl F⟩ (fun i σ H' _ ⟨_, _, _, s⟩ => ⟨SqL.of (s _ _ f1), SqL.of (s _ _ f2)⟩) ?_ ?_
    · rintro i x σ H' H2 hi ⟨e, s, rfl, sm⟩ ⟨T2, x1, y1, rfl, nT, rfl, e1, e2⟩
      have key : ∃ (a : Addr) (kk : Nat), x1 = .ref a ∧ y1 = .int (kk : Int) ∧ kk < 18 ∧ ErrK K T.cs T.C_WebError F a kk := by
        match i, hi, e1, e2 with
        | 0, _, e1, e2 =>
          cases e1
          cases e2
          exact ⟨a1, 0, rfl, rfl, by decide, E1.toK⟩
        | 1, _, e1, e2 =>
          cases e1
          cases e2
          exact ⟨a2, 3, rfl, rfl, by decide, E2.toK⟩
        | 2, _, e1, e2 =>
          cases e1
          cases e2
          exact ⟨a3, 12, rfl, rfl, by decide, E3.toK⟩
        | 3, _, e1, e2 =>
          cases e1
          cases e2
          exact ⟨a4, 14, rfl, rfl, by decide, E4.toK⟩
        | 4, _, e1, e2 =>
          cases e1
          cases e2
          exact ⟨a5, 2, rfl, rfl, by decide, E5.toK⟩
        | 5, _, e1, e2 =>
          cases e1
          cases e2
          exact ⟨a6, 4, rfl, rfl, by decide, E6.toK⟩
        | 6, _, e1, e2 =>
          cases e1
          cases e2
          exact ⟨a7, 6, rfl, rfl, by decide, E7.toK⟩
        | 7, _, e1, e2 =>
          cases e1
          cases e2
          exact ⟨a8, 7, rfl, rfl, by decide, E8.toK⟩
        | 8, _, e1, e2 =>
          cases e1
          cases e2
          exact ⟨a9, 8, rfl, rfl, by decide, E9.toK⟩
      obtain ⟨a, kk, rfl, rfl, h18, EK⟩ := key
      refine ⟨T2, _, rfl, SqT.of upd_same, rfl, _, _, rfl, _, _, rfl, rfl, ?_⟩
      have s3 := sm.trans (Same.new nT (o := .tup [.ref a, .int (kk : Int)]))
      refine ⟨_, rfl, _, rfl, a, kk, rfl, h18, EK.same s3, fun G2 s2 => ?_⟩
      refine ⟨_, rfl, ?_⟩
      refine iteF ?_
      exact ⟨_, _, rfl, s3.trans s2⟩
    rintro σ H' ⟨e, s, rfl, sm⟩
    have S := S.trans sm
    clear sm E1 E2 E3 E4 E5 E6 E7 E8 E9 f1 f2
    refine ⟨_, rfl, _, rfl, v, w2, rfl, fun a1 d1 nd1 na1 ne1 => ?_⟩
    obtain ⟨G1, hG1, s1, E1⟩ := err_new (K := K) (cs := T.cs) (W := T.C_WebError) (fs := [("way", v), ("cut", w2)]) T.mk_Worse (two_flds T.low_Worse.noN T.low_Worse.noM) nd1 na1 ne1
    rw [← hG1]
    have S := S.trans s1
    clear hG1 nd1 na1 ne1 s1
    refine ⟨_, rfl, v, rfl, fun a2 d2 nd2 na2 ne2 => ?_⟩
    obtain ⟨G2, hG2, s2, E2⟩ := err_new (K := K) (cs := T.cs) (W := T.C_WebError) (fs := [("cut", v)]) T.mk_Barred (one_fld T.low_Barred.noN) nd2 na2 ne2
    rw [← hG2]
    have S := S.trans s2
    have E1 := E1.same s2
    clear hG2 nd2 na2 ne2 s2
    refine ⟨_, rfl, v, rfl, fun a3 d3 nd3 na3 ne3 => ?_⟩
    obtain ⟨G3, hG3, s3, E3⟩ := err_new (K := K) (cs := T.cs) (W := T.C_WebError) (fs := [("most", v)]) T.mk_TooMany (one_fld T.low_TooMany.noN) nd3 na3 ne3
    rw [← hG3]
    have S := S.trans s3
    have E1 := E1.same s3
    have E2 := E2.same s3
    clear hG3 nd3 na3 ne3 s3
    refine ⟨_, _, _, rfl, ?_⟩
    obtain ⟨D1, dd1, M1, ha1, hd1, nf1⟩ := id E1
    obtain ⟨D2, dd2, M2, ha2, hd2, nf2⟩ := id E2
    obtain ⟨D3, dd3, M3, ha3, hd3, nf3⟩ := id E3
    have k1 : List.lookup ("way" : Str) [(("way" : Str), v), (("cut" : Str), w2)] = some v := by simp [List.lookup]
    have k2 : List.lookup ("cut" : Str) [(("way" : Str), v), (("cut" : Str), w2)] = some w2 := rfl
    have k3 : List.lookup ("cut" : Str) [(("cut" : Str), v)] = some v := by simp [List.lookup]
    have k4 : List.lookup ("most" : Str) [(("most" : Str), v)] = some v := by simp [List.lookup]
    refine ⟨_, rfl, a1, D1, dd1, _, v, rfl, M1.ex, nf1 _ _ k1, ha1, hd1, k1, _, rfl, a1, D1, dd1, _, w2, rfl, M1.ex, nf1 _ _ k2, ha1, hd1, k2, _, rfl, a2, D2, dd2, _, v, rfl, M2.ex, nf2 _ _ k3, ha2, hd2, k3, _, rfl, a3, D3, dd3, _, v, rfl, M3.ex, nf3 _ _ k4, ha3, hd3, k4, by show 4 ≤ sizeLine; decide, fun q1 n1 => ?_⟩
    have SH : ShowsQ 300000 20 (.list [d, dw, d, d]) := showsQ_list (.cons sh (.cons sh2 (.cons sh (.cons sh .nil)))) (by show 4 * 100 + 2 * 4 + 3 ≤ _; decide) (by decide)
    have DA : ∀ {G : Hp}, Same H G → DqAll K G [v, w2, v, v] [d, dw, d, d] := fun z => .cons (dq.same z) (.cons (dq2.same z) (.cons (dq.same z) (.cons (dq.same z) .nil)))
    have S1 := S.trans (Same.new n1 (o := .lst [v, w2, v, v]))
    refine ⟨q1, _, _, rfl, upd_same, DA S1, SH, ?_⟩
    refine ⟨_, rfl, _, rfl, _, rfl, _, rfl, by show 4 ≤ sizeLine; decide, fun q2 n2 => ?_⟩
    have S2 := S1.trans (Same.new n2 (o := .lst [v, w2, v, v]))
    refine ⟨q2, _, _, rfl, upd_same, DA S2, SH, rfl, _, rfl, ?_⟩
    rw [decide_eq_true rfl]
    refine iteF ?_
    have s := (Same.new n1 (o := .lst [v, w2, v, v])).trans (Same.new n2 (o := .lst [v, w2, v, v]))
    refine ⟨_, rfl, a1, 15, rfl, by decide, E1.toK.same s, fun J1 j1 => ?_⟩
    refine ⟨_, rfl, ?_⟩
    refine iteT ?_
    refine ⟨_, rfl, a2, 16, rfl, by decide, (E2.toK.same s).same j1, fun J2 j2 => ?_⟩
    refine ⟨_, rfl, ?_⟩
    refine iteT ?_
    exact ⟨_, rfl, a3, 13, rfl, by decide, ((E3.toK.same s).same j1).same j2, fun J3 j3 => k _ (S2.trans (j1.trans (j2.trans j3)))⟩
theorem g_law (T : TX K mg) : FnG P w K mg base CX0 7 T.f_law (spLawN K) := by
  refine okG T.F_law sc_law (bd_law T.F_law) (fun vs H Q E h => ?_) (fun cdv A out s H vs Q E hr fr h => ?_)
  · obtain ⟨a, ns, rfl, hS, hl, k⟩ := h
    rfl
  · obtain ⟨a, ns, rfl, hS, hl, k⟩ := h
    refine ⟨_, (pss_cons (ps_set (i := 1) sc_law.nd rfl (Or.inl rfl) (pe_callG (g__law_pen T) (hr.mono (by decide)) fr (by rfl) T.m__law_pen T.F__law_pen.kp pass0 (pa_cons (pv 0) pa_nil)))
 (pss_cons (ps_for PassesOwn.never rfl (pi_range1 (by rfl) T.b_range (pa_cons pe_int pa_nil)) (pg_name (i := 2) sc_law.nd rfl (Or.inl rfl))
 (pss_one (ps_if (pt_not (pt_val (pe_callG (g__law_right T) (hr.mono (by decide)) fr (by rfl) T.m__law_right T.F__law_right.kp pass0 (pa_cons (pe_callG (g__law_value T) (hr.mono (by decide)) fr (by rfl) T.m__law_value T.F__law_value.kp pass0 (pa_cons (pv 1) pa_nil)) (pa_cons (pe_callG (g__law_value T) (hr.mono (by decide)) fr (by rfl) T.m__law_value T.F__law_value.kp pass0 (pa_cons (pv 1) pa_nil)) pa_nil))))) (pss_one (ps_ret pe_bl)) pss_nil)))
 (pss_one (ps_ret (pe_callG0 (g__law_bare_right T) (hr.mono (by decide)) fr (by rfl) T.m__law_bare_right T.F__law_bare_right.kp pass0))))), ?_⟩
    refine ⟨_, rfl, a, ns, rfl, hS, hl, fun p c H1 s1 np nc W => ?_⟩
    refine ⟨6, rfl, by decide, by decide, ?_⟩
    refine for_range (lo := 0) (n := 6) (fun i σ H => ∃ x a' g', σ = [some (.ref a), some (.ref p), x] ∧ PenAt H p c ns a' g' ∧ a' ≤ 2 * (i : Int)) ⟨none, 0, 0, rfl, W, by decide⟩ ?_ ?_
    · rintro i σ H2 hi ⟨x, a2, g2, rfl, W, ha⟩
      have hi6 : (i : Int) < 6 := by omega
      refine ⟨_, rfl, p, c, ns, a2, g2, rfl, W, by omega, fun v a3 g3 H3 hp3 k3 V3 la3 lb3 => ?_⟩
      have W3 := W.next la3 (by omega) hp3 k3
      refine ⟨_, rfl, p, c, ns, a3, g3, rfl, W3, by omega, fun w2 a4 g4 H4 hp4 k4 V4 la4 lb4 => ?_⟩
      have W4 := W3.next la4 (by omega) hp4 k4
      refine ⟨v, w2, rfl, (V3.same (del_same k4)).same del_sub, V4.same del_sub, fun H5 s5 => ?_⟩
      refine ⟨_, rfl, ?_⟩
      refine iteF ?_
      exact ⟨_, a4, g4, rfl, W4.keep s5, by omega⟩
    rintro σ H2 ⟨x, a2, g2, rfl, W, ha⟩
    exact ⟨rfl, fun H' s => k _⟩
end
end RR
set_option maxHeartbeats 4000000
namespace RR
open PySem PySem.Spec PyProof.Rows L2
local macro_rules | `(tactic| walk_at "hp") => `(tactic| first | assumption | exact upd_same | (refine hp_new ?_ (by assumption); walk_at "hp") | (refine hp_mut ?_ (by first | assumption | (apply Ne.symm; assumption)); walk_at "hp") | (refine Same.at (by assumption) ?_; walk_at "hp"))
local macro_rules | `(tactic| walk_at "same") => `(tactic| first | exact fun _ _ z => z | assumption | (refine same_new ?_ (by assumption); walk_at "same") | (refine L2.Same.trans ?_ (by assumption); walk_at "same"))
local macro_rules | `(tactic| walk_at "sq") => `(tactic| exact SqL.of (by walk_at "hp"))
local macro_rules | `(tactic| walk_at "sqT") => `(tactic| exact SqT.of (by walk_at "hp"))

/-- each of some classes told from each other one -/
def kitRow (K : PySem.W.Frag) (D : Addr) (i : Nat) : Nat → List Addr → Bool
  | _, [] => true
  | j, C :: r => (PySem.W.kitOne K (.ref D) (.ref C) == some (decide (i = j))) && kitRow K D i (j + 1) r
def kitRows (K : PySem.W.Frag) (cs : List Addr) : Nat → List Addr → Bool
  | _, [] => true
  | i, D :: r => kitRow K D i 0 cs && kitRows K cs (i + 1) r
def kitAll (K : PySem.W.Frag) (cs : List Addr) : Bool := kitRows K cs 0 cs
theorem kitRow_at {K : PySem.W.Frag} {D : Addr} {i : Nat} : ∀ {cs : List Addr} {j0 : Nat}, kitRow K D i j0 cs = true → ∀ (j : Nat) (C : Addr), cs[j]? = some C → PySem.W.kitOne K (.ref D) (.ref C) = some (decide (i = j0 + j))
  | [], _, _, j, C, e => by simp at e
  | C0 :: r, j0, h, 0, C, e => by
    cases e
    exact beq_iff_eq.mp (Bool.and_eq_true_iff.mp h).1
  | C0 :: r, j0, h, j + 1, C, e => by
    have z := kitRow_at (Bool.and_eq_true_iff.mp h).2 j C e
    rw [show j0 + 1 + j = j0 + (j + 1) from by omega] at z
    exact z
theorem kitRows_at {K : PySem.W.Frag} {cs : List Addr} : ∀ {ds : List Addr} {i0 : Nat}, kitRows K cs i0 ds = true → ∀ (i : Nat) (D : Addr), ds[i]? = some D → kitRow K D (i0 + i) 0 cs = true
  | [], _, _, i, D, e => by simp at e
  | D0 :: r, i0, h, 0, D, e => by
    cases e
    exact (Bool.and_eq_true_iff.mp h).1
  | D0 :: r, i0, h, i + 1, D, e => by
    have z := kitRows_at (Bool.and_eq_true_iff.mp h).2 i D e
    rw [show i0 + 1 + i = i0 + (i + 1) from by omega] at z
    exact z
theorem kitAll_at {K : PySem.W.Frag} {cs : List Addr} {i : Nat} {D : Addr} (h : kitAll K cs = true) (e : cs[i]? = some D) : ∀ (j : Nat) (C : Addr), cs[j]? = some C → PySem.W.kitOne K (.ref D) (.ref C) = some (decide (i = j)) := by
  intro j C ec
  have z := kitRow_at (kitRows_at h i D e) j C ec
  rw [Nat.zero_add, Nat.zero_add] at z
  exact z

theorem build {K : PySem.W.Frag} {h : Heap} {mg : Str → Option Value} {fa : Addr} (X : K.In h) (G : h.Ns mainGlobals mg) (hfa : mg "law" = some (.ref fa))
    {C_WebError : Addr}
    {C_BadRatio : Addr}
    {C_NoRatio : Addr}
    {C_BadName : Addr}
    {C_BadWeb : Addr}
    {C_NoName : Addr}
    {C_NotTied : Addr}
    {C_NotPlain : Addr}
    {C_BadValue : Addr}
    {C_NoValue : Addr}
    {C_BadTree : Addr}
    {C_BadStream : Addr}
    {C_BadHeights : Addr}
    {C_NoTurn : Addr}
    {C_TooMany : Addr}
    {C_BadText : Addr}
    {C_Worse : Addr}
    {C_Barred : Addr}
    {C_NoLine : Addr}
    {nmBadRatio qBadRatio : Str} {NBadRatio fI_BadRatio : Addr} {bsBadRatio bmBadRatio : List Value} {snBadRatio : List Str} {subBadRatio : List Value} {abBadRatio : Bool} {colBadRatio : Option Bool} {ddBadRatio : Option Addr} {a0BadRatio a1BadRatio a2BadRatio a3BadRatio a5BadRatio : Option Value} {ocBadRatio pmBadRatio docBadRatio cdBadRatio ctBadRatio : Value} {odBadRatio anBadRatio : Option Addr} {slBadRatio : Array (Option Value)} {p1BadRatio p2BadRatio q1BadRatio q2BadRatio q3BadRatio q4BadRatio : Pos} {nmBadName qBadName : Str} {NBadName fI_BadName : Addr} {bsBadName bmBadName : List Value} {snBadName : List Str} {subBadName : List Value} {abBadName : Bool} {colBadName : Option Bool} {ddBadName : Option Addr} {a0BadName a1BadName a2BadName a3BadName a5BadName : Option Value} {ocBadName pmBadName docBadName cdBadName ctBadName : Value} {odBadName anBadName : Option Addr} {slBadName : Array (Option Value)} {p1BadName p2BadName q1BadName q2BadName q3BadName q4BadName : Pos} {nmBadWeb qBadWeb : Str} {NBadWeb fI_BadWeb : Addr} {bsBadWeb bmBadWeb : List Value} {snBadWeb : List Str} {subBadWeb : List Value} {abBadWeb : Bool} {colBadWeb : Option Bool} {ddBadWeb : Option Addr} {a0BadWeb a1BadWeb a2BadWeb a3BadWeb a5BadWeb : Option Value} {ocBadWeb pmBadWeb docBadWeb cdBadWeb ctBadWeb : Value} {odBadWeb anBadWeb : Option Addr} {slBadWeb : Array (Option Value)} {p1BadWeb p2BadWeb q1BadWeb q2BadWeb q3BadWeb q4BadWeb : Pos} {nmNoName qNoName : Str} {NNoName fI_NoName : Addr} {bsNoName bmNoName : List Value} {snNoName : List Str} {subNoName : List Value} {abNoName : Bool} {colNoName : Option Bool} {ddNoName : Option Addr} {a0NoName a1NoName a2NoName a3NoName a5NoName : Option Value} {ocNoName pmNoName docNoName cdNoName ctNoName : Value} {odNoName anNoName : Option Addr} {slNoName : Array (Option Value)} {p1NoName p2NoName q1NoName q2NoName q3NoName q4NoName : Pos} {nmNotPlain qNotPlain : Str} {NNotPlain fI_NotPlain : Addr} {bsNotPlain bmNotPlain : List Value} {snNotPlain : List Str} {subNotPlain : List Value} {abNotPlain : Bool} {colNotPlain : Option Bool} {ddNotPlain : Option Addr} {a0NotPlain a1NotPlain a2NotPlain a3NotPlain a5NotPlain : Option Value} {ocNotPlain pmNotPlain docNotPlain cdNotPlain ctNotPlain : Value} {odNotPlain anNotPlain : Option Addr} {slNotPlain : Array (Option Value)} {p1NotPlain p2NotPlain q1NotPlain q2NotPlain q3NotPlain q4NotPlain : Pos} {nmBadValue qBadValue : Str} {NBadValue fI_BadValue : Addr} {bsBadValue bmBadValue : List Value} {snBadValue : List Str} {subBadValue : List Value} {abBadValue : Bool} {colBadValue : Option Bool} {ddBadValue : Option Addr} {a0BadValue a1BadValue a2BadValue a3BadValue a5BadValue : Option Value} {ocBadValue pmBadValue docBadValue cdBadValue ctBadValue : Value} {odBadValue anBadValue : Option Addr} {slBadValue : Array (Option Value)} {p1BadValue p2BadValue q1BadValue q2BadValue q3BadValue q4BadValue : Pos} {nmNoValue qNoValue : Str} {NNoValue fI_NoValue : Addr} {bsNoValue bmNoValue : List Value} {snNoValue : List Str} {subNoValue : List Value} {abNoValue : Bool} {colNoValue : Option Bool} {ddNoValue : Option Addr} {a0NoValue a1NoValue a2NoValue a3NoValue a5NoValue : Option Value} {ocNoValue pmNoValue docNoValue cdNoValue ctNoValue : Value} {odNoValue anNoValue : Option Addr} {slNoValue : Array (Option Value)} {p1NoValue p2NoValue q1NoValue q2NoValue q3NoValue q4NoValue : Pos} {nmNoTurn qNoTurn : Str} {NNoTurn fI_NoTurn : Addr} {bsNoTurn bmNoTurn : List Value} {snNoTurn : List Str} {subNoTurn : List Value} {abNoTurn : Bool} {colNoTurn : Option Bool} {ddNoTurn : Option Addr} {a0NoTurn a1NoTurn a2NoTurn a3NoTurn a5NoTurn : Option Value} {ocNoTurn pmNoTurn docNoTurn cdNoTurn ctNoTurn : Value} {odNoTurn anNoTurn : Option Addr} {slNoTurn : Array (Option Value)} {p1NoTurn p2NoTurn q1NoTurn q2NoTurn q3NoTurn q4NoTurn : Pos} {nmTooMany qTooMany : Str} {NTooMany fI_TooMany : Addr} {bsTooMany bmTooMany : List Value} {snTooMany : List Str} {subTooMany : List Value} {abTooMany : Bool} {colTooMany : Option Bool} {ddTooMany : Option Addr} {a0TooMany a1TooMany a2TooMany a3TooMany a5TooMany : Option Value} {ocTooMany pmTooMany docTooMany cdTooMany ctTooMany : Value} {odTooMany anTooMany : Option Addr} {slTooMany : Array (Option Value)} {p1TooMany p2TooMany q1TooMany q2TooMany q3TooMany q4TooMany : Pos} {nmBadText qBadText : Str} {NBadText fI_BadText : Addr} {bsBadText bmBadText : List Value} {snBadText : List Str} {subBadText : List Value} {abBadText : Bool} {colBadText : Option Bool} {ddBadText : Option Addr} {a0BadText a1BadText a2BadText a3BadText a5BadText : Option Value} {ocBadText pmBadText docBadText cdBadText ctBadText : Value} {odBadText anBadText : Option Addr} {slBadText : Array (Option Value)} {p1BadText p2BadText q1BadText q2BadText q3BadText q4BadText : Pos} {nmWorse qWorse : Str} {NWorse fI_Worse : Addr} {bsWorse bmWorse : List Value} {snWorse : List Str} {subWorse : List Value} {abWorse : Bool} {colWorse : Option Bool} {ddWorse : Option Addr} {a0Worse a1Worse a2Worse a3Worse a5Worse : Option Value} {ocWorse pmWorse docWorse cdWorse ctWorse : Value} {odWorse anWorse : Option Addr} {slWorse : Array (Option Value)} {p1Worse p2Worse p3Worse q1Worse q2Worse q3Worse q4Worse r1Worse r2Worse r3Worse r4Worse : Pos} {nmBarred qBarred : Str} {NBarred fI_Barred : Addr} {bsBarred bmBarred : List Value} {snBarred : List Str} {subBarred : List Value} {abBarred : Bool} {colBarred : Option Bool} {ddBarred : Option Addr} {a0Barred a1Barred a2Barred a3Barred a5Barred : Option Value} {ocBarred pmBarred docBarred cdBarred ctBarred : Value} {odBarred anBarred : Option Addr} {slBarred : Array (Option Value)} {p1Barred p2Barred q1Barred q2Barred q3Barred q4Barred : Pos}
    {f__law_pen : Addr} {oc__law_pen kV__law_pen doc__law_pen pm__law_pen cd__law_pen ct__law_pen : Value} {od__law_pen an__law_pen : Option Addr} {sl__law_pen : Array (Option Value)}
    {f__law_draw : Addr} {oc__law_draw kV__law_draw doc__law_draw pm__law_draw cd__law_draw ct__law_draw : Value} {od__law_draw an__law_draw : Option Addr} {sl__law_draw : Array (Option Value)}
    {f__law_pick : Addr} {oc__law_pick kV__law_pick doc__law_pick pm__law_pick cd__law_pick ct__law_pick : Value} {od__law_pick an__law_pick : Option Addr} {sl__law_pick : Array (Option Value)}
    {f__law_marks : Addr} {oc__law_marks kV__law_marks doc__law_marks pm__law_marks cd__law_marks ct__law_marks : Value} {od__law_marks an__law_marks : Option Addr} {sl__law_marks : Array (Option Value)}
    {f__law_is_alone : Addr} {oc__law_is_alone kV__law_is_alone doc__law_is_alone pm__law_is_alone cd__law_is_alone ct__law_is_alone : Value} {od__law_is_alone an__law_is_alone : Option Addr} {sl__law_is_alone : Array (Option Value)}
    {f__law_value : Addr} {oc__law_value kV__law_value doc__law_value pm__law_value cd__law_value ct__law_value : Value} {od__law_value an__law_value : Option Addr} {sl__law_value : Array (Option Value)}
    {f__law_bare_right : Addr} {oc__law_bare_right kV__law_bare_right doc__law_bare_right pm__law_bare_right cd__law_bare_right ct__law_bare_right : Value} {od__law_bare_right an__law_bare_right : Option Addr} {sl__law_bare_right : Array (Option Value)}
    {f__law_right : Addr} {oc__law_right kV__law_right doc__law_right pm__law_right cd__law_right ct__law_right : Value} {od__law_right an__law_right : Option Addr} {sl__law_right : Array (Option Value)}
    {f_law : Addr} {oc_law kV_law doc_law pm_law cd_law ct_law : Value} {od_law an_law : Option Addr} {sl_law : Array (Option Value)}
    (aC_WebError : PySem.W.nsIn K mainGlobals "WebError" = some (some (.ref C_WebError)))
    (aC_BadRatio : PySem.W.nsIn K mainGlobals "BadRatio" = some (some (.ref C_BadRatio)))
    (aC_NoRatio : PySem.W.nsIn K mainGlobals "NoRatio" = some (some (.ref C_NoRatio)))
    (aC_BadName : PySem.W.nsIn K mainGlobals "BadName" = some (some (.ref C_BadName)))
    (aC_BadWeb : PySem.W.nsIn K mainGlobals "BadWeb" = some (some (.ref C_BadWeb)))
    (aC_NoName : PySem.W.nsIn K mainGlobals "NoName" = some (some (.ref C_NoName)))
    (aC_NotTied : PySem.W.nsIn K mainGlobals "NotTied" = some (some (.ref C_NotTied)))
    (aC_NotPlain : PySem.W.nsIn K mainGlobals "NotPlain" = some (some (.ref C_NotPlain)))
    (aC_BadValue : PySem.W.nsIn K mainGlobals "BadValue" = some (some (.ref C_BadValue)))
    (aC_NoValue : PySem.W.nsIn K mainGlobals "NoValue" = some (some (.ref C_NoValue)))
    (aC_BadTree : PySem.W.nsIn K mainGlobals "BadTree" = some (some (.ref C_BadTree)))
    (aC_BadStream : PySem.W.nsIn K mainGlobals "BadStream" = some (some (.ref C_BadStream)))
    (aC_BadHeights : PySem.W.nsIn K mainGlobals "BadHeights" = some (some (.ref C_BadHeights)))
    (aC_NoTurn : PySem.W.nsIn K mainGlobals "NoTurn" = some (some (.ref C_NoTurn)))
    (aC_TooMany : PySem.W.nsIn K mainGlobals "TooMany" = some (some (.ref C_TooMany)))
    (aC_BadText : PySem.W.nsIn K mainGlobals "BadText" = some (some (.ref C_BadText)))
    (aC_Worse : PySem.W.nsIn K mainGlobals "Worse" = some (some (.ref C_Worse)))
    (aC_Barred : PySem.W.nsIn K mainGlobals "Barred" = some (some (.ref C_Barred)))
    (aC_NoLine : PySem.W.nsIn K mainGlobals "NoLine" = some (some (.ref C_NoLine)))
    (cn : PySem.W.specialIn K (.builtin "object.__class__") "__get__" = some (some (.builtin "getset_descriptor.__get__")))
    (ct : PySem.W.takesIn K (.builtin "object.__class__") = some true)
    (x_kBadRatio : PySem.W.keepIn K (.ref C_BadRatio) = true)
    (x_bBadRatio : PySem.W.subIn K (.ref C_BadRatio) (.type "BaseException") = some true)
    (x_tBadRatio : PySem.W.typeIn K (.ref C_BadRatio) = some (.type "type"))
    (x_gBadRatio : PySem.W.findIn K (.ref C_BadRatio) "__getattribute__" = some (some (.builtin "BaseException.__getattribute__")))
    (x_hBadRatio : PySem.W.findIn K (.ref C_BadRatio) "__getattr__" = some none)
    (x_dBadRatio : PySem.W.hasDictIn K C_BadRatio = true)
    (x_cBadRatio : PySem.W.findIn K (.ref C_BadRatio) "__class__" = some (some (.builtin "object.__class__")))
    (x_mBadRatio : PySem.W.mroIn K C_BadRatio (.type "object") = some true)
    (x_vBadRatio : PySem.W.kitOne K (.ref C_BadRatio) (.type "ValueError") = some true)
    (x_wBadRatio : PySem.W.kitOne K (.ref C_BadRatio) (.ref C_WebError) = some true)
    (y_xBadRatio : K.lookup C_BadRatio = some (excClassObj nmBadRatio qBadRatio C_BadRatio NBadRatio bsBadRatio bmBadRatio true snBadRatio subBadRatio abBadRatio colBadRatio ddBadRatio a0BadRatio a1BadRatio a2BadRatio a3BadRatio a5BadRatio "ValueError.__new__"))
    (y_rBadRatio : PySem.HandSPX.refsVE bmBadRatio = true)
    (y_sBadRatio : PySem.W.findIn K (.ref C_BadRatio) "__setattr__" = some (some (.builtin "object.__setattr__")))
    (y_iBadRatio : PySem.W.findIn K (.ref C_BadRatio) "__init__" = some (some (.ref fI_BadRatio)))
    (y_tBadRatio : PySem.W.typeIn K (.ref fI_BadRatio) = some (.type "function"))
    (y_eBadRatio : PySem.W.subIn K (.ref C_BadRatio) (.ref C_BadRatio) = some true)
    (y_lBadRatio : K.lookup fI_BadRatio = some ⟨ocBadRatio, odBadRatio, .func (PySem.W.fnOf "__init__" "BadRatio.__init__" (PySem.LowA.iA p1BadRatio p2BadRatio) (PySem.LowA.iB q1BadRatio q2BadRatio q3BadRatio q4BadRatio) PySem.LowA.iS .none .none docBadRatio pmBadRatio anBadRatio cdBadRatio ctBadRatio), slBadRatio⟩)
    (y_cBadRatio : PySem.W.codeIn K cdBadRatio "BadRatio.__init__" = true)
    (y_nBadRatio : PySem.W.findIn K (.ref C_BadRatio) "at" = some none)
    (x_kNoRatio : PySem.W.keepIn K (.ref C_NoRatio) = true)
    (x_bNoRatio : PySem.W.subIn K (.ref C_NoRatio) (.type "BaseException") = some true)
    (x_tNoRatio : PySem.W.typeIn K (.ref C_NoRatio) = some (.type "type"))
    (x_gNoRatio : PySem.W.findIn K (.ref C_NoRatio) "__getattribute__" = some (some (.builtin "BaseException.__getattribute__")))
    (x_hNoRatio : PySem.W.findIn K (.ref C_NoRatio) "__getattr__" = some none)
    (x_dNoRatio : PySem.W.hasDictIn K C_NoRatio = true)
    (x_cNoRatio : PySem.W.findIn K (.ref C_NoRatio) "__class__" = some (some (.builtin "object.__class__")))
    (x_mNoRatio : PySem.W.mroIn K C_NoRatio (.type "object") = some true)
    (x_vNoRatio : PySem.W.kitOne K (.ref C_NoRatio) (.type "ValueError") = some true)
    (x_wNoRatio : PySem.W.kitOne K (.ref C_NoRatio) (.ref C_WebError) = some true)
    (x0_NoRatio : PySem.W.excIn K C_NoRatio [.type "ValueError", .type "Exception", .type "BaseException", .type "object"] "ValueError.__new__" = true)
    (x_kBadName : PySem.W.keepIn K (.ref C_BadName) = true)
    (x_bBadName : PySem.W.subIn K (.ref C_BadName) (.type "BaseException") = some true)
    (x_tBadName : PySem.W.typeIn K (.ref C_BadName) = some (.type "type"))
    (x_gBadName : PySem.W.findIn K (.ref C_BadName) "__getattribute__" = some (some (.builtin "BaseException.__getattribute__")))
    (x_hBadName : PySem.W.findIn K (.ref C_BadName) "__getattr__" = some none)
    (x_dBadName : PySem.W.hasDictIn K C_BadName = true)
    (x_cBadName : PySem.W.findIn K (.ref C_BadName) "__class__" = some (some (.builtin "object.__class__")))
    (x_mBadName : PySem.W.mroIn K C_BadName (.type "object") = some true)
    (x_vBadName : PySem.W.kitOne K (.ref C_BadName) (.type "ValueError") = some true)
    (x_wBadName : PySem.W.kitOne K (.ref C_BadName) (.ref C_WebError) = some true)
    (y_xBadName : K.lookup C_BadName = some (excClassObj nmBadName qBadName C_BadName NBadName bsBadName bmBadName true snBadName subBadName abBadName colBadName ddBadName a0BadName a1BadName a2BadName a3BadName a5BadName "ValueError.__new__"))
    (y_rBadName : PySem.HandSPX.refsVE bmBadName = true)
    (y_sBadName : PySem.W.findIn K (.ref C_BadName) "__setattr__" = some (some (.builtin "object.__setattr__")))
    (y_iBadName : PySem.W.findIn K (.ref C_BadName) "__init__" = some (some (.ref fI_BadName)))
    (y_tBadName : PySem.W.typeIn K (.ref fI_BadName) = some (.type "function"))
    (y_eBadName : PySem.W.subIn K (.ref C_BadName) (.ref C_BadName) = some true)
    (y_lBadName : K.lookup fI_BadName = some ⟨ocBadName, odBadName, .func (PySem.W.fnOf "__init__" "BadName.__init__" (PySem.LowN.iA p1BadName p2BadName) (PySem.LowN.iB q1BadName q2BadName q3BadName q4BadName) PySem.LowN.iS .none .none docBadName pmBadName anBadName cdBadName ctBadName), slBadName⟩)
    (y_cBadName : PySem.W.codeIn K cdBadName "BadName.__init__" = true)
    (y_nBadName : PySem.W.findIn K (.ref C_BadName) "name" = some none)
    (x_kBadWeb : PySem.W.keepIn K (.ref C_BadWeb) = true)
    (x_bBadWeb : PySem.W.subIn K (.ref C_BadWeb) (.type "BaseException") = some true)
    (x_tBadWeb : PySem.W.typeIn K (.ref C_BadWeb) = some (.type "type"))
    (x_gBadWeb : PySem.W.findIn K (.ref C_BadWeb) "__getattribute__" = some (some (.builtin "BaseException.__getattribute__")))
    (x_hBadWeb : PySem.W.findIn K (.ref C_BadWeb) "__getattr__" = some none)
    (x_dBadWeb : PySem.W.hasDictIn K C_BadWeb = true)
    (x_cBadWeb : PySem.W.findIn K (.ref C_BadWeb) "__class__" = some (some (.builtin "object.__class__")))
    (x_mBadWeb : PySem.W.mroIn K C_BadWeb (.type "object") = some true)
    (x_vBadWeb : PySem.W.kitOne K (.ref C_BadWeb) (.type "ValueError") = some true)
    (x_wBadWeb : PySem.W.kitOne K (.ref C_BadWeb) (.ref C_WebError) = some true)
    (y_xBadWeb : K.lookup C_BadWeb = some (excClassObj nmBadWeb qBadWeb C_BadWeb NBadWeb bsBadWeb bmBadWeb true snBadWeb subBadWeb abBadWeb colBadWeb ddBadWeb a0BadWeb a1BadWeb a2BadWeb a3BadWeb a5BadWeb "ValueError.__new__"))
    (y_rBadWeb : PySem.HandSPX.refsVE bmBadWeb = true)
    (y_sBadWeb : PySem.W.findIn K (.ref C_BadWeb) "__setattr__" = some (some (.builtin "object.__setattr__")))
    (y_iBadWeb : PySem.W.findIn K (.ref C_BadWeb) "__init__" = some (some (.ref fI_BadWeb)))
    (y_tBadWeb : PySem.W.typeIn K (.ref fI_BadWeb) = some (.type "function"))
    (y_eBadWeb : PySem.W.subIn K (.ref C_BadWeb) (.ref C_BadWeb) = some true)
    (y_lBadWeb : K.lookup fI_BadWeb = some ⟨ocBadWeb, odBadWeb, .func (PySem.W.fnOf "__init__" "BadWeb.__init__" (PySem.LowA.iA p1BadWeb p2BadWeb) (PySem.LowA.iB q1BadWeb q2BadWeb q3BadWeb q4BadWeb) PySem.LowA.iS .none .none docBadWeb pmBadWeb anBadWeb cdBadWeb ctBadWeb), slBadWeb⟩)
    (y_cBadWeb : PySem.W.codeIn K cdBadWeb "BadWeb.__init__" = true)
    (y_nBadWeb : PySem.W.findIn K (.ref C_BadWeb) "at" = some none)
    (x_kNoName : PySem.W.keepIn K (.ref C_NoName) = true)
    (x_bNoName : PySem.W.subIn K (.ref C_NoName) (.type "BaseException") = some true)
    (x_tNoName : PySem.W.typeIn K (.ref C_NoName) = some (.type "type"))
    (x_gNoName : PySem.W.findIn K (.ref C_NoName) "__getattribute__" = some (some (.builtin "BaseException.__getattribute__")))
    (x_hNoName : PySem.W.findIn K (.ref C_NoName) "__getattr__" = some none)
    (x_dNoName : PySem.W.hasDictIn K C_NoName = true)
    (x_cNoName : PySem.W.findIn K (.ref C_NoName) "__class__" = some (some (.builtin "object.__class__")))
    (x_mNoName : PySem.W.mroIn K C_NoName (.type "object") = some true)
    (x_vNoName : PySem.W.kitOne K (.ref C_NoName) (.type "ValueError") = some true)
    (x_wNoName : PySem.W.kitOne K (.ref C_NoName) (.ref C_WebError) = some true)
    (y_xNoName : K.lookup C_NoName = some (excClassObj nmNoName qNoName C_NoName NNoName bsNoName bmNoName true snNoName subNoName abNoName colNoName ddNoName a0NoName a1NoName a2NoName a3NoName a5NoName "ValueError.__new__"))
    (y_rNoName : PySem.HandSPX.refsVE bmNoName = true)
    (y_sNoName : PySem.W.findIn K (.ref C_NoName) "__setattr__" = some (some (.builtin "object.__setattr__")))
    (y_iNoName : PySem.W.findIn K (.ref C_NoName) "__init__" = some (some (.ref fI_NoName)))
    (y_tNoName : PySem.W.typeIn K (.ref fI_NoName) = some (.type "function"))
    (y_eNoName : PySem.W.subIn K (.ref C_NoName) (.ref C_NoName) = some true)
    (y_lNoName : K.lookup fI_NoName = some ⟨ocNoName, odNoName, .func (PySem.W.fnOf "__init__" "NoName.__init__" (PySem.LowN.iA p1NoName p2NoName) (PySem.LowN.iB q1NoName q2NoName q3NoName q4NoName) PySem.LowN.iS .none .none docNoName pmNoName anNoName cdNoName ctNoName), slNoName⟩)
    (y_cNoName : PySem.W.codeIn K cdNoName "NoName.__init__" = true)
    (y_nNoName : PySem.W.findIn K (.ref C_NoName) "name" = some none)
    (x_kNotTied : PySem.W.keepIn K (.ref C_NotTied) = true)
    (x_bNotTied : PySem.W.subIn K (.ref C_NotTied) (.type "BaseException") = some true)
    (x_tNotTied : PySem.W.typeIn K (.ref C_NotTied) = some (.type "type"))
    (x_gNotTied : PySem.W.findIn K (.ref C_NotTied) "__getattribute__" = some (some (.builtin "BaseException.__getattribute__")))
    (x_hNotTied : PySem.W.findIn K (.ref C_NotTied) "__getattr__" = some none)
    (x_dNotTied : PySem.W.hasDictIn K C_NotTied = true)
    (x_cNotTied : PySem.W.findIn K (.ref C_NotTied) "__class__" = some (some (.builtin "object.__class__")))
    (x_mNotTied : PySem.W.mroIn K C_NotTied (.type "object") = some true)
    (x_vNotTied : PySem.W.kitOne K (.ref C_NotTied) (.type "ValueError") = some true)
    (x_wNotTied : PySem.W.kitOne K (.ref C_NotTied) (.ref C_WebError) = some true)
    (x0_NotTied : PySem.W.excIn K C_NotTied [.type "ValueError", .type "Exception", .type "BaseException", .type "object"] "ValueError.__new__" = true)
    (x_kNotPlain : PySem.W.keepIn K (.ref C_NotPlain) = true)
    (x_bNotPlain : PySem.W.subIn K (.ref C_NotPlain) (.type "BaseException") = some true)
    (x_tNotPlain : PySem.W.typeIn K (.ref C_NotPlain) = some (.type "type"))
    (x_gNotPlain : PySem.W.findIn K (.ref C_NotPlain) "__getattribute__" = some (some (.builtin "BaseException.__getattribute__")))
    (x_hNotPlain : PySem.W.findIn K (.ref C_NotPlain) "__getattr__" = some none)
    (x_dNotPlain : PySem.W.hasDictIn K C_NotPlain = true)
    (x_cNotPlain : PySem.W.findIn K (.ref C_NotPlain) "__class__" = some (some (.builtin "object.__class__")))
    (x_mNotPlain : PySem.W.mroIn K C_NotPlain (.type "object") = some true)
    (x_vNotPlain : PySem.W.kitOne K (.ref C_NotPlain) (.type "ValueError") = some true)
    (x_wNotPlain : PySem.W.kitOne K (.ref C_NotPlain) (.ref C_WebError) = some true)
    (y_xNotPlain : K.lookup C_NotPlain = some (excClassObj nmNotPlain qNotPlain C_NotPlain NNotPlain bsNotPlain bmNotPlain true snNotPlain subNotPlain abNotPlain colNotPlain ddNotPlain a0NotPlain a1NotPlain a2NotPlain a3NotPlain a5NotPlain "ValueError.__new__"))
    (y_rNotPlain : PySem.HandSPX.refsVE bmNotPlain = true)
    (y_sNotPlain : PySem.W.findIn K (.ref C_NotPlain) "__setattr__" = some (some (.builtin "object.__setattr__")))
    (y_iNotPlain : PySem.W.findIn K (.ref C_NotPlain) "__init__" = some (some (.ref fI_NotPlain)))
    (y_tNotPlain : PySem.W.typeIn K (.ref fI_NotPlain) = some (.type "function"))
    (y_eNotPlain : PySem.W.subIn K (.ref C_NotPlain) (.ref C_NotPlain) = some true)
    (y_lNotPlain : K.lookup fI_NotPlain = some ⟨ocNotPlain, odNotPlain, .func (PySem.W.fnOf "__init__" "NotPlain.__init__" (PySem.LowN.iA p1NotPlain p2NotPlain) (PySem.LowN.iB q1NotPlain q2NotPlain q3NotPlain q4NotPlain) PySem.LowN.iS .none .none docNotPlain pmNotPlain anNotPlain cdNotPlain ctNotPlain), slNotPlain⟩)
    (y_cNotPlain : PySem.W.codeIn K cdNotPlain "NotPlain.__init__" = true)
    (y_nNotPlain : PySem.W.findIn K (.ref C_NotPlain) "name" = some none)
    (x_kBadValue : PySem.W.keepIn K (.ref C_BadValue) = true)
    (x_bBadValue : PySem.W.subIn K (.ref C_BadValue) (.type "BaseException") = some true)
    (x_tBadValue : PySem.W.typeIn K (.ref C_BadValue) = some (.type "type"))
    (x_gBadValue : PySem.W.findIn K (.ref C_BadValue) "__getattribute__" = some (some (.builtin "BaseException.__getattribute__")))
    (x_hBadValue : PySem.W.findIn K (.ref C_BadValue) "__getattr__" = some none)
    (x_dBadValue : PySem.W.hasDictIn K C_BadValue = true)
    (x_cBadValue : PySem.W.findIn K (.ref C_BadValue) "__class__" = some (some (.builtin "object.__class__")))
    (x_mBadValue : PySem.W.mroIn K C_BadValue (.type "object") = some true)
    (x_vBadValue : PySem.W.kitOne K (.ref C_BadValue) (.type "ValueError") = some true)
    (x_wBadValue : PySem.W.kitOne K (.ref C_BadValue) (.ref C_WebError) = some true)
    (y_xBadValue : K.lookup C_BadValue = some (excClassObj nmBadValue qBadValue C_BadValue NBadValue bsBadValue bmBadValue true snBadValue subBadValue abBadValue colBadValue ddBadValue a0BadValue a1BadValue a2BadValue a3BadValue a5BadValue "ValueError.__new__"))
    (y_rBadValue : PySem.HandSPX.refsVE bmBadValue = true)
    (y_sBadValue : PySem.W.findIn K (.ref C_BadValue) "__setattr__" = some (some (.builtin "object.__setattr__")))
    (y_iBadValue : PySem.W.findIn K (.ref C_BadValue) "__init__" = some (some (.ref fI_BadValue)))
    (y_tBadValue : PySem.W.typeIn K (.ref fI_BadValue) = some (.type "function"))
    (y_eBadValue : PySem.W.subIn K (.ref C_BadValue) (.ref C_BadValue) = some true)
    (y_lBadValue : K.lookup fI_BadValue = some ⟨ocBadValue, odBadValue, .func (PySem.W.fnOf "__init__" "BadValue.__init__" (PySem.LowN.iA p1BadValue p2BadValue) (PySem.LowN.iB q1BadValue q2BadValue q3BadValue q4BadValue) PySem.LowN.iS .none .none docBadValue pmBadValue anBadValue cdBadValue ctBadValue), slBadValue⟩)
    (y_cBadValue : PySem.W.codeIn K cdBadValue "BadValue.__init__" = true)
    (y_nBadValue : PySem.W.findIn K (.ref C_BadValue) "name" = some none)
    (x_kNoValue : PySem.W.keepIn K (.ref C_NoValue) = true)
    (x_bNoValue : PySem.W.subIn K (.ref C_NoValue) (.type "BaseException") = some true)
    (x_tNoValue : PySem.W.typeIn K (.ref C_NoValue) = some (.type "type"))
    (x_gNoValue : PySem.W.findIn K (.ref C_NoValue) "__getattribute__" = some (some (.builtin "BaseException.__getattribute__")))
    (x_hNoValue : PySem.W.findIn K (.ref C_NoValue) "__getattr__" = some none)
    (x_dNoValue : PySem.W.hasDictIn K C_NoValue = true)
    (x_cNoValue : PySem.W.findIn K (.ref C_NoValue) "__class__" = some (some (.builtin "object.__class__")))
    (x_mNoValue : PySem.W.mroIn K C_NoValue (.type "object") = some true)
    (x_vNoValue : PySem.W.kitOne K (.ref C_NoValue) (.type "ValueError") = some true)
    (x_wNoValue : PySem.W.kitOne K (.ref C_NoValue) (.ref C_WebError) = some true)
    (y_xNoValue : K.lookup C_NoValue = some (excClassObj nmNoValue qNoValue C_NoValue NNoValue bsNoValue bmNoValue true snNoValue subNoValue abNoValue colNoValue ddNoValue a0NoValue a1NoValue a2NoValue a3NoValue a5NoValue "ValueError.__new__"))
    (y_rNoValue : PySem.HandSPX.refsVE bmNoValue = true)
    (y_sNoValue : PySem.W.findIn K (.ref C_NoValue) "__setattr__" = some (some (.builtin "object.__setattr__")))
    (y_iNoValue : PySem.W.findIn K (.ref C_NoValue) "__init__" = some (some (.ref fI_NoValue)))
    (y_tNoValue : PySem.W.typeIn K (.ref fI_NoValue) = some (.type "function"))
    (y_eNoValue : PySem.W.subIn K (.ref C_NoValue) (.ref C_NoValue) = some true)
    (y_lNoValue : K.lookup fI_NoValue = some ⟨ocNoValue, odNoValue, .func (PySem.W.fnOf "__init__" "NoValue.__init__" (PySem.LowN.iA p1NoValue p2NoValue) (PySem.LowN.iB q1NoValue q2NoValue q3NoValue q4NoValue) PySem.LowN.iS .none .none docNoValue pmNoValue anNoValue cdNoValue ctNoValue), slNoValue⟩)
    (y_cNoValue : PySem.W.codeIn K cdNoValue "NoValue.__init__" = true)
    (y_nNoValue : PySem.W.findIn K (.ref C_NoValue) "name" = some none)
    (x_kBadTree : PySem.W.keepIn K (.ref C_BadTree) = true)
    (x_bBadTree : PySem.W.subIn K (.ref C_BadTree) (.type "BaseException") = some true)
    (x_tBadTree : PySem.W.typeIn K (.ref C_BadTree) = some (.type "type"))
    (x_gBadTree : PySem.W.findIn K (.ref C_BadTree) "__getattribute__" = some (some (.builtin "BaseException.__getattribute__")))
    (x_hBadTree : PySem.W.findIn K (.ref C_BadTree) "__getattr__" = some none)
    (x_dBadTree : PySem.W.hasDictIn K C_BadTree = true)
    (x_cBadTree : PySem.W.findIn K (.ref C_BadTree) "__class__" = some (some (.builtin "object.__class__")))
    (x_mBadTree : PySem.W.mroIn K C_BadTree (.type "object") = some true)
    (x_vBadTree : PySem.W.kitOne K (.ref C_BadTree) (.type "ValueError") = some true)
    (x_wBadTree : PySem.W.kitOne K (.ref C_BadTree) (.ref C_WebError) = some true)
    (x0_BadTree : PySem.W.excIn K C_BadTree [.type "ValueError", .type "Exception", .type "BaseException", .type "object"] "ValueError.__new__" = true)
    (x_kBadStream : PySem.W.keepIn K (.ref C_BadStream) = true)
    (x_bBadStream : PySem.W.subIn K (.ref C_BadStream) (.type "BaseException") = some true)
    (x_tBadStream : PySem.W.typeIn K (.ref C_BadStream) = some (.type "type"))
    (x_gBadStream : PySem.W.findIn K (.ref C_BadStream) "__getattribute__" = some (some (.builtin "BaseException.__getattribute__")))
    (x_hBadStream : PySem.W.findIn K (.ref C_BadStream) "__getattr__" = some none)
    (x_dBadStream : PySem.W.hasDictIn K C_BadStream = true)
    (x_cBadStream : PySem.W.findIn K (.ref C_BadStream) "__class__" = some (some (.builtin "object.__class__")))
    (x_mBadStream : PySem.W.mroIn K C_BadStream (.type "object") = some true)
    (x_vBadStream : PySem.W.kitOne K (.ref C_BadStream) (.type "ValueError") = some true)
    (x_wBadStream : PySem.W.kitOne K (.ref C_BadStream) (.ref C_WebError) = some true)
    (x0_BadStream : PySem.W.excIn K C_BadStream [.type "ValueError", .type "Exception", .type "BaseException", .type "object"] "ValueError.__new__" = true)
    (x_kBadHeights : PySem.W.keepIn K (.ref C_BadHeights) = true)
    (x_bBadHeights : PySem.W.subIn K (.ref C_BadHeights) (.type "BaseException") = some true)
    (x_tBadHeights : PySem.W.typeIn K (.ref C_BadHeights) = some (.type "type"))
    (x_gBadHeights : PySem.W.findIn K (.ref C_BadHeights) "__getattribute__" = some (some (.builtin "BaseException.__getattribute__")))
    (x_hBadHeights : PySem.W.findIn K (.ref C_BadHeights) "__getattr__" = some none)
    (x_dBadHeights : PySem.W.hasDictIn K C_BadHeights = true)
    (x_cBadHeights : PySem.W.findIn K (.ref C_BadHeights) "__class__" = some (some (.builtin "object.__class__")))
    (x_mBadHeights : PySem.W.mroIn K C_BadHeights (.type "object") = some true)
    (x_vBadHeights : PySem.W.kitOne K (.ref C_BadHeights) (.type "ValueError") = some true)
    (x_wBadHeights : PySem.W.kitOne K (.ref C_BadHeights) (.ref C_WebError) = some true)
    (x0_BadHeights : PySem.W.excIn K C_BadHeights [.type "ValueError", .type "Exception", .type "BaseException", .type "object"] "ValueError.__new__" = true)
    (x_kNoTurn : PySem.W.keepIn K (.ref C_NoTurn) = true)
    (x_bNoTurn : PySem.W.subIn K (.ref C_NoTurn) (.type "BaseException") = some true)
    (x_tNoTurn : PySem.W.typeIn K (.ref C_NoTurn) = some (.type "type"))
    (x_gNoTurn : PySem.W.findIn K (.ref C_NoTurn) "__getattribute__" = some (some (.builtin "BaseException.__getattribute__")))
    (x_hNoTurn : PySem.W.findIn K (.ref C_NoTurn) "__getattr__" = some none)
    (x_dNoTurn : PySem.W.hasDictIn K C_NoTurn = true)
    (x_cNoTurn : PySem.W.findIn K (.ref C_NoTurn) "__class__" = some (some (.builtin "object.__class__")))
    (x_mNoTurn : PySem.W.mroIn K C_NoTurn (.type "object") = some true)
    (x_vNoTurn : PySem.W.kitOne K (.ref C_NoTurn) (.type "ValueError") = some true)
    (x_wNoTurn : PySem.W.kitOne K (.ref C_NoTurn) (.ref C_WebError) = some true)
    (y_xNoTurn : K.lookup C_NoTurn = some (excClassObj nmNoTurn qNoTurn C_NoTurn NNoTurn bsNoTurn bmNoTurn true snNoTurn subNoTurn abNoTurn colNoTurn ddNoTurn a0NoTurn a1NoTurn a2NoTurn a3NoTurn a5NoTurn "ValueError.__new__"))
    (y_rNoTurn : PySem.HandSPX.refsVE bmNoTurn = true)
    (y_sNoTurn : PySem.W.findIn K (.ref C_NoTurn) "__setattr__" = some (some (.builtin "object.__setattr__")))
    (y_iNoTurn : PySem.W.findIn K (.ref C_NoTurn) "__init__" = some (some (.ref fI_NoTurn)))
    (y_tNoTurn : PySem.W.typeIn K (.ref fI_NoTurn) = some (.type "function"))
    (y_eNoTurn : PySem.W.subIn K (.ref C_NoTurn) (.ref C_NoTurn) = some true)
    (y_lNoTurn : K.lookup fI_NoTurn = some ⟨ocNoTurn, odNoTurn, .func (PySem.W.fnOf "__init__" "NoTurn.__init__" (PySem.LowA.iA p1NoTurn p2NoTurn) (PySem.LowA.iB q1NoTurn q2NoTurn q3NoTurn q4NoTurn) PySem.LowA.iS .none .none docNoTurn pmNoTurn anNoTurn cdNoTurn ctNoTurn), slNoTurn⟩)
    (y_cNoTurn : PySem.W.codeIn K cdNoTurn "NoTurn.__init__" = true)
    (y_nNoTurn : PySem.W.findIn K (.ref C_NoTurn) "at" = some none)
    (x_kTooMany : PySem.W.keepIn K (.ref C_TooMany) = true)
    (x_bTooMany : PySem.W.subIn K (.ref C_TooMany) (.type "BaseException") = some true)
    (x_tTooMany : PySem.W.typeIn K (.ref C_TooMany) = some (.type "type"))
    (x_gTooMany : PySem.W.findIn K (.ref C_TooMany) "__getattribute__" = some (some (.builtin "BaseException.__getattribute__")))
    (x_hTooMany : PySem.W.findIn K (.ref C_TooMany) "__getattr__" = some none)
    (x_dTooMany : PySem.W.hasDictIn K C_TooMany = true)
    (x_cTooMany : PySem.W.findIn K (.ref C_TooMany) "__class__" = some (some (.builtin "object.__class__")))
    (x_mTooMany : PySem.W.mroIn K C_TooMany (.type "object") = some true)
    (x_vTooMany : PySem.W.kitOne K (.ref C_TooMany) (.type "ValueError") = some true)
    (x_wTooMany : PySem.W.kitOne K (.ref C_TooMany) (.ref C_WebError) = some true)
    (y_xTooMany : K.lookup C_TooMany = some (excClassObj nmTooMany qTooMany C_TooMany NTooMany bsTooMany bmTooMany true snTooMany subTooMany abTooMany colTooMany ddTooMany a0TooMany a1TooMany a2TooMany a3TooMany a5TooMany "ValueError.__new__"))
    (y_rTooMany : PySem.HandSPX.refsVE bmTooMany = true)
    (y_sTooMany : PySem.W.findIn K (.ref C_TooMany) "__setattr__" = some (some (.builtin "object.__setattr__")))
    (y_iTooMany : PySem.W.findIn K (.ref C_TooMany) "__init__" = some (some (.ref fI_TooMany)))
    (y_tTooMany : PySem.W.typeIn K (.ref fI_TooMany) = some (.type "function"))
    (y_eTooMany : PySem.W.subIn K (.ref C_TooMany) (.ref C_TooMany) = some true)
    (y_lTooMany : K.lookup fI_TooMany = some ⟨ocTooMany, odTooMany, .func (PySem.W.fnOf "__init__" "TooMany.__init__" (PySem.LowM.iA p1TooMany p2TooMany) (PySem.LowM.iB q1TooMany q2TooMany q3TooMany q4TooMany) PySem.LowM.iS .none .none docTooMany pmTooMany anTooMany cdTooMany ctTooMany), slTooMany⟩)
    (y_cTooMany : PySem.W.codeIn K cdTooMany "TooMany.__init__" = true)
    (y_nTooMany : PySem.W.findIn K (.ref C_TooMany) "most" = some none)
    (x_kBadText : PySem.W.keepIn K (.ref C_BadText) = true)
    (x_bBadText : PySem.W.subIn K (.ref C_BadText) (.type "BaseException") = some true)
    (x_tBadText : PySem.W.typeIn K (.ref C_BadText) = some (.type "type"))
    (x_gBadText : PySem.W.findIn K (.ref C_BadText) "__getattribute__" = some (some (.builtin "BaseException.__getattribute__")))
    (x_hBadText : PySem.W.findIn K (.ref C_BadText) "__getattr__" = some none)
    (x_dBadText : PySem.W.hasDictIn K C_BadText = true)
    (x_cBadText : PySem.W.findIn K (.ref C_BadText) "__class__" = some (some (.builtin "object.__class__")))
    (x_mBadText : PySem.W.mroIn K C_BadText (.type "object") = some true)
    (x_vBadText : PySem.W.kitOne K (.ref C_BadText) (.type "ValueError") = some true)
    (x_wBadText : PySem.W.kitOne K (.ref C_BadText) (.ref C_WebError) = some true)
    (y_xBadText : K.lookup C_BadText = some (excClassObj nmBadText qBadText C_BadText NBadText bsBadText bmBadText true snBadText subBadText abBadText colBadText ddBadText a0BadText a1BadText a2BadText a3BadText a5BadText "ValueError.__new__"))
    (y_rBadText : PySem.HandSPX.refsVE bmBadText = true)
    (y_sBadText : PySem.W.findIn K (.ref C_BadText) "__setattr__" = some (some (.builtin "object.__setattr__")))
    (y_iBadText : PySem.W.findIn K (.ref C_BadText) "__init__" = some (some (.ref fI_BadText)))
    (y_tBadText : PySem.W.typeIn K (.ref fI_BadText) = some (.type "function"))
    (y_eBadText : PySem.W.subIn K (.ref C_BadText) (.ref C_BadText) = some true)
    (y_lBadText : K.lookup fI_BadText = some ⟨ocBadText, odBadText, .func (PySem.W.fnOf "__init__" "BadText.__init__" (PySem.LowA.iA p1BadText p2BadText) (PySem.LowA.iB q1BadText q2BadText q3BadText q4BadText) PySem.LowA.iS .none .none docBadText pmBadText anBadText cdBadText ctBadText), slBadText⟩)
    (y_cBadText : PySem.W.codeIn K cdBadText "BadText.__init__" = true)
    (y_nBadText : PySem.W.findIn K (.ref C_BadText) "at" = some none)
    (x_kWorse : PySem.W.keepIn K (.ref C_Worse) = true)
    (x_bWorse : PySem.W.subIn K (.ref C_Worse) (.type "BaseException") = some true)
    (x_tWorse : PySem.W.typeIn K (.ref C_Worse) = some (.type "type"))
    (x_gWorse : PySem.W.findIn K (.ref C_Worse) "__getattribute__" = some (some (.builtin "BaseException.__getattribute__")))
    (x_hWorse : PySem.W.findIn K (.ref C_Worse) "__getattr__" = some none)
    (x_dWorse : PySem.W.hasDictIn K C_Worse = true)
    (x_cWorse : PySem.W.findIn K (.ref C_Worse) "__class__" = some (some (.builtin "object.__class__")))
    (x_mWorse : PySem.W.mroIn K C_Worse (.type "object") = some true)
    (x_vWorse : PySem.W.kitOne K (.ref C_Worse) (.type "ValueError") = some true)
    (x_wWorse : PySem.W.kitOne K (.ref C_Worse) (.ref C_WebError) = some true)
    (y_xWorse : K.lookup C_Worse = some (excClassObj nmWorse qWorse C_Worse NWorse bsWorse bmWorse true snWorse subWorse abWorse colWorse ddWorse a0Worse a1Worse a2Worse a3Worse a5Worse "ValueError.__new__"))
    (y_rWorse : PySem.HandSPX.refsVE bmWorse = true)
    (y_sWorse : PySem.W.findIn K (.ref C_Worse) "__setattr__" = some (some (.builtin "object.__setattr__")))
    (y_iWorse : PySem.W.findIn K (.ref C_Worse) "__init__" = some (some (.ref fI_Worse)))
    (y_tWorse : PySem.W.typeIn K (.ref fI_Worse) = some (.type "function"))
    (y_eWorse : PySem.W.subIn K (.ref C_Worse) (.ref C_Worse) = some true)
    (y_lWorse : K.lookup fI_Worse = some ⟨ocWorse, odWorse, .func (PySem.W.fnOf "__init__" "Worse.__init__" (PySem.LowW.iA p1Worse p2Worse p3Worse) (PySem.LowW.iB q1Worse q2Worse q3Worse q4Worse r1Worse r2Worse r3Worse r4Worse) PySem.LowW.iS .none .none docWorse pmWorse anWorse cdWorse ctWorse), slWorse⟩)
    (y_cWorse : PySem.W.codeIn K cdWorse "Worse.__init__" = true)
    (y_nWorse : PySem.W.findIn K (.ref C_Worse) "way" = some none)
    (y_oWorse : PySem.W.findIn K (.ref C_Worse) "cut" = some none)
    (x_kBarred : PySem.W.keepIn K (.ref C_Barred) = true)
    (x_bBarred : PySem.W.subIn K (.ref C_Barred) (.type "BaseException") = some true)
    (x_tBarred : PySem.W.typeIn K (.ref C_Barred) = some (.type "type"))
    (x_gBarred : PySem.W.findIn K (.ref C_Barred) "__getattribute__" = some (some (.builtin "BaseException.__getattribute__")))
    (x_hBarred : PySem.W.findIn K (.ref C_Barred) "__getattr__" = some none)
    (x_dBarred : PySem.W.hasDictIn K C_Barred = true)
    (x_cBarred : PySem.W.findIn K (.ref C_Barred) "__class__" = some (some (.builtin "object.__class__")))
    (x_mBarred : PySem.W.mroIn K C_Barred (.type "object") = some true)
    (x_vBarred : PySem.W.kitOne K (.ref C_Barred) (.type "ValueError") = some true)
    (x_wBarred : PySem.W.kitOne K (.ref C_Barred) (.ref C_WebError) = some true)
    (y_xBarred : K.lookup C_Barred = some (excClassObj nmBarred qBarred C_Barred NBarred bsBarred bmBarred true snBarred subBarred abBarred colBarred ddBarred a0Barred a1Barred a2Barred a3Barred a5Barred "ValueError.__new__"))
    (y_rBarred : PySem.HandSPX.refsVE bmBarred = true)
    (y_sBarred : PySem.W.findIn K (.ref C_Barred) "__setattr__" = some (some (.builtin "object.__setattr__")))
    (y_iBarred : PySem.W.findIn K (.ref C_Barred) "__init__" = some (some (.ref fI_Barred)))
    (y_tBarred : PySem.W.typeIn K (.ref fI_Barred) = some (.type "function"))
    (y_eBarred : PySem.W.subIn K (.ref C_Barred) (.ref C_Barred) = some true)
    (y_lBarred : K.lookup fI_Barred = some ⟨ocBarred, odBarred, .func (PySem.W.fnOf "__init__" "Barred.__init__" (PySem.LowC.iA p1Barred p2Barred) (PySem.LowC.iB q1Barred q2Barred q3Barred q4Barred) PySem.LowC.iS .none .none docBarred pmBarred anBarred cdBarred ctBarred), slBarred⟩)
    (y_cBarred : PySem.W.codeIn K cdBarred "Barred.__init__" = true)
    (y_nBarred : PySem.W.findIn K (.ref C_Barred) "cut" = some none)
    (x_kNoLine : PySem.W.keepIn K (.ref C_NoLine) = true)
    (x_bNoLine : PySem.W.subIn K (.ref C_NoLine) (.type "BaseException") = some true)
    (x_tNoLine : PySem.W.typeIn K (.ref C_NoLine) = some (.type "type"))
    (x_gNoLine : PySem.W.findIn K (.ref C_NoLine) "__getattribute__" = some (some (.builtin "BaseException.__getattribute__")))
    (x_hNoLine : PySem.W.findIn K (.ref C_NoLine) "__getattr__" = some none)
    (x_dNoLine : PySem.W.hasDictIn K C_NoLine = true)
    (x_cNoLine : PySem.W.findIn K (.ref C_NoLine) "__class__" = some (some (.builtin "object.__class__")))
    (x_mNoLine : PySem.W.mroIn K C_NoLine (.type "object") = some true)
    (x_vNoLine : PySem.W.kitOne K (.ref C_NoLine) (.type "ValueError") = some true)
    (x_wNoLine : PySem.W.kitOne K (.ref C_NoLine) (.ref C_WebError) = some true)
    (x0_NoLine : PySem.W.excIn K C_NoLine [.type "ValueError", .type "Exception", .type "BaseException", .type "object"] "ValueError.__new__" = true)
    (allK : kitAll K [C_BadRatio, C_NoRatio, C_BadName, C_BadWeb, C_NoName, C_NotTied, C_NotPlain, C_BadValue, C_NoValue, C_BadTree, C_BadStream, C_BadHeights, C_NoTurn, C_TooMany, C_BadText, C_Worse, C_Barred, C_NoLine] = true)
    (a__law_pen : PySem.W.nsIn K mainGlobals "_law_pen" = some (some (.ref f__law_pen)))
    (l__law_pen : K.lookup f__law_pen = some ⟨oc__law_pen, od__law_pen, .func (PySem.W.fnOf "_law_pen" "_law_pen" (defArgs s__law_pen) (defBody s__law_pen) (defScope s__law_pen) .none kV__law_pen doc__law_pen pm__law_pen an__law_pen cd__law_pen ct__law_pen), sl__law_pen⟩)
    (c__law_pen : PySem.W.codeIn K cd__law_pen "_law_pen" = true)
    (k__law_pen : PySem.W.keepIn K (.ref f__law_pen) = true)
    (a__law_draw : PySem.W.nsIn K mainGlobals "_law_draw" = some (some (.ref f__law_draw)))
    (l__law_draw : K.lookup f__law_draw = some ⟨oc__law_draw, od__law_draw, .func (PySem.W.fnOf "_law_draw" "_law_draw" (defArgs s__law_draw) (defBody s__law_draw) (defScope s__law_draw) .none kV__law_draw doc__law_draw pm__law_draw an__law_draw cd__law_draw ct__law_draw), sl__law_draw⟩)
    (c__law_draw : PySem.W.codeIn K cd__law_draw "_law_draw" = true)
    (k__law_draw : PySem.W.keepIn K (.ref f__law_draw) = true)
    (a__law_pick : PySem.W.nsIn K mainGlobals "_law_pick" = some (some (.ref f__law_pick)))
    (l__law_pick : K.lookup f__law_pick = some ⟨oc__law_pick, od__law_pick, .func (PySem.W.fnOf "_law_pick" "_law_pick" (defArgs s__law_pick) (defBody s__law_pick) (defScope s__law_pick) .none kV__law_pick doc__law_pick pm__law_pick an__law_pick cd__law_pick ct__law_pick), sl__law_pick⟩)
    (c__law_pick : PySem.W.codeIn K cd__law_pick "_law_pick" = true)
    (k__law_pick : PySem.W.keepIn K (.ref f__law_pick) = true)
    (a__law_marks : PySem.W.nsIn K mainGlobals "_law_marks" = some (some (.ref f__law_marks)))
    (l__law_marks : K.lookup f__law_marks = some ⟨oc__law_marks, od__law_marks, .func (PySem.W.fnOf "_law_marks" "_law_marks" (defArgs s__law_marks) (defBody s__law_marks) (defScope s__law_marks) .none kV__law_marks doc__law_marks pm__law_marks an__law_marks cd__law_marks ct__law_marks), sl__law_marks⟩)
    (c__law_marks : PySem.W.codeIn K cd__law_marks "_law_marks" = true)
    (k__law_marks : PySem.W.keepIn K (.ref f__law_marks) = true)
    (a__law_is_alone : PySem.W.nsIn K mainGlobals "_law_is_alone" = some (some (.ref f__law_is_alone)))
    (l__law_is_alone : K.lookup f__law_is_alone = some ⟨oc__law_is_alone, od__law_is_alone, .func (PySem.W.fnOf "_law_is_alone" "_law_is_alone" (defArgs s__law_is_alone) (defBody s__law_is_alone) (defScope s__law_is_alone) .none kV__law_is_alone doc__law_is_alone pm__law_is_alone an__law_is_alone cd__law_is_alone ct__law_is_alone), sl__law_is_alone⟩)
    (c__law_is_alone : PySem.W.codeIn K cd__law_is_alone "_law_is_alone" = true)
    (k__law_is_alone : PySem.W.keepIn K (.ref f__law_is_alone) = true)
    (a__law_value : PySem.W.nsIn K mainGlobals "_law_value" = some (some (.ref f__law_value)))
    (l__law_value : K.lookup f__law_value = some ⟨oc__law_value, od__law_value, .func (PySem.W.fnOf "_law_value" "_law_value" (defArgs s__law_value) (defBody s__law_value) (defScope s__law_value) .none kV__law_value doc__law_value pm__law_value an__law_value cd__law_value ct__law_value), sl__law_value⟩)
    (c__law_value : PySem.W.codeIn K cd__law_value "_law_value" = true)
    (k__law_value : PySem.W.keepIn K (.ref f__law_value) = true)
    (a__law_bare_right : PySem.W.nsIn K mainGlobals "_law_bare_right" = some (some (.ref f__law_bare_right)))
    (l__law_bare_right : K.lookup f__law_bare_right = some ⟨oc__law_bare_right, od__law_bare_right, .func (PySem.W.fnOf "_law_bare_right" "_law_bare_right" (defArgs s__law_bare_right) (defBody s__law_bare_right) (defScope s__law_bare_right) .none kV__law_bare_right doc__law_bare_right pm__law_bare_right an__law_bare_right cd__law_bare_right ct__law_bare_right), sl__law_bare_right⟩)
    (c__law_bare_right : PySem.W.codeIn K cd__law_bare_right "_law_bare_right" = true)
    (k__law_bare_right : PySem.W.keepIn K (.ref f__law_bare_right) = true)
    (a__law_right : PySem.W.nsIn K mainGlobals "_law_right" = some (some (.ref f__law_right)))
    (l__law_right : K.lookup f__law_right = some ⟨oc__law_right, od__law_right, .func (PySem.W.fnOf "_law_right" "_law_right" (defArgs s__law_right) (defBody s__law_right) (defScope s__law_right) .none kV__law_right doc__law_right pm__law_right an__law_right cd__law_right ct__law_right), sl__law_right⟩)
    (c__law_right : PySem.W.codeIn K cd__law_right "_law_right" = true)
    (k__law_right : PySem.W.keepIn K (.ref f__law_right) = true)
    (a_law : PySem.W.nsIn K mainGlobals "law" = some (some (.ref f_law)))
    (l_law : K.lookup f_law = some ⟨oc_law, od_law, .func (PySem.W.fnOf "law" "law" (defArgs s_law) (defBody s_law) (defScope s_law) .none kV_law doc_law pm_law an_law cd_law ct_law), sl_law⟩)
    (c_law : PySem.W.codeIn K cd_law "law" = true)
    (k_law : PySem.W.keepIn K (.ref f_law) = true)
    (z_int : PySem.W.nsIn K mainGlobals "int" = some none)
    (z_list : PySem.W.nsIn K mainGlobals "list" = some none)
    (z_len : PySem.W.nsIn K mainGlobals "len" = some none)
    (z_abs : PySem.W.nsIn K mainGlobals "abs" = some none)
    (z_isinstance : PySem.W.nsIn K mainGlobals "isinstance" = some none)
    (z_ValueError : PySem.W.nsIn K mainGlobals "ValueError" = some none)
    (z_repr : PySem.W.nsIn K mainGlobals "repr" = some none)
    (z_range : PySem.W.nsIn K mainGlobals "range" = some none)
    (z_enumerate : PySem.W.nsIn K mainGlobals "enumerate" = some none)
    (z_zip : PySem.W.nsIn K mainGlobals "zip" = some none) :
    ∃ T : TX K mg, T.f_law = fa := by
  have e := hfa.symm.trans (PySem.W.mg_of X G a_law)
  have e2 : f_law = fa := by cases e; rfl
  subst e2
  exact ⟨{
      b_int := PySem.W.mg_none_of X G z_int
      b_list := PySem.W.mg_none_of X G z_list
      b_len := PySem.W.mg_none_of X G z_len
      b_abs := PySem.W.mg_none_of X G z_abs
      b_isinstance := PySem.W.mg_none_of X G z_isinstance
      b_ValueError := PySem.W.mg_none_of X G z_ValueError
      b_repr := PySem.W.mg_none_of X G z_repr
      b_range := PySem.W.mg_none_of X G z_range
      b_enumerate := PySem.W.mg_none_of X G z_enumerate
      b_zip := PySem.W.mg_none_of X G z_zip
      f__law_pen := f__law_pen
      d__law_pen := _
      F__law_pen := fun_mk (st := s__law_pen) l__law_pen c__law_pen k__law_pen
      m__law_pen := PySem.W.mg_of X G a__law_pen
      f__law_draw := f__law_draw
      d__law_draw := _
      F__law_draw := fun_mk (st := s__law_draw) l__law_draw c__law_draw k__law_draw
      m__law_draw := PySem.W.mg_of X G a__law_draw
      f__law_pick := f__law_pick
      d__law_pick := _
      F__law_pick := fun_mk (st := s__law_pick) l__law_pick c__law_pick k__law_pick
      m__law_pick := PySem.W.mg_of X G a__law_pick
      f__law_marks := f__law_marks
      d__law_marks := _
      F__law_marks := fun_mk (st := s__law_marks) l__law_marks c__law_marks k__law_marks
      m__law_marks := PySem.W.mg_of X G a__law_marks
      f__law_is_alone := f__law_is_alone
      d__law_is_alone := _
      F__law_is_alone := fun_mk (st := s__law_is_alone) l__law_is_alone c__law_is_alone k__law_is_alone
      m__law_is_alone := PySem.W.mg_of X G a__law_is_alone
      f__law_value := f__law_value
      d__law_value := _
      F__law_value := fun_mk (st := s__law_value) l__law_value c__law_value k__law_value
      m__law_value := PySem.W.mg_of X G a__law_value
      f__law_bare_right := f__law_bare_right
      d__law_bare_right := _
      F__law_bare_right := fun_mk (st := s__law_bare_right) l__law_bare_right c__law_bare_right k__law_bare_right
      m__law_bare_right := PySem.W.mg_of X G a__law_bare_right
      f__law_right := f__law_right
      d__law_right := _
      F__law_right := fun_mk (st := s__law_right) l__law_right c__law_right k__law_right
      m__law_right := PySem.W.mg_of X G a__law_right
      f_law := f_law
      d_law := _
      F_law := fun_mk (st := s_law) l_law c_law k_law
      m_law := PySem.W.mg_of X G a_law
      C_WebError := C_WebError
      m_WebError := PySem.W.mg_of X G aC_WebError
      C_BadRatio := C_BadRatio
      m_BadRatio := PySem.W.mg_of X G aC_BadRatio
      C_NoRatio := C_NoRatio
      m_NoRatio := PySem.W.mg_of X G aC_NoRatio
      C_BadName := C_BadName
      m_BadName := PySem.W.mg_of X G aC_BadName
      C_BadWeb := C_BadWeb
      m_BadWeb := PySem.W.mg_of X G aC_BadWeb
      C_NoName := C_NoName
      m_NoName := PySem.W.mg_of X G aC_NoName
      C_NotTied := C_NotTied
      m_NotTied := PySem.W.mg_of X G aC_NotTied
      C_NotPlain := C_NotPlain
      m_NotPlain := PySem.W.mg_of X G aC_NotPlain
      C_BadValue := C_BadValue
      m_BadValue := PySem.W.mg_of X G aC_BadValue
      C_NoValue := C_NoValue
      m_NoValue := PySem.W.mg_of X G aC_NoValue
      C_BadTree := C_BadTree
      m_BadTree := PySem.W.mg_of X G aC_BadTree
      C_BadStream := C_BadStream
      m_BadStream := PySem.W.mg_of X G aC_BadStream
      C_BadHeights := C_BadHeights
      m_BadHeights := PySem.W.mg_of X G aC_BadHeights
      C_NoTurn := C_NoTurn
      m_NoTurn := PySem.W.mg_of X G aC_NoTurn
      C_TooMany := C_TooMany
      m_TooMany := PySem.W.mg_of X G aC_TooMany
      C_BadText := C_BadText
      m_BadText := PySem.W.mg_of X G aC_BadText
      C_Worse := C_Worse
      m_Worse := PySem.W.mg_of X G aC_Worse
      C_Barred := C_Barred
      m_Barred := PySem.W.mg_of X G aC_Barred
      C_NoLine := C_NoLine
      m_NoLine := PySem.W.mg_of X G aC_NoLine
      fI_BadRatio := fI_BadRatio
      low_BadRatio := { gC := PySem.W.mg_of X G aC_BadRatio, cls := ⟨nmBadRatio, qBadRatio, NBadRatio, bsBadRatio, _, snBadRatio, subBadRatio, abBadRatio, colBadRatio, ddBadRatio, a0BadRatio, a1BadRatio, a2BadRatio, a3BadRatio, a5BadRatio, y_xBadRatio, y_rBadRatio⟩, sa := y_sBadRatio, ga := x_gBadRatio, gg := x_hBadRatio, noN := y_nBadRatio, iC := y_iBadRatio, tC := y_tBadRatio, kC := x_kBadRatio, exC := x_bBadRatio, tyC := x_tBadRatio, hdC := x_dBadRatio, te := PySem.W.exm_ref x_bBadRatio x_dBadRatio x_tBadRatio y_eBadRatio, fn := ⟨_, _, _, _, _, _, _, _, _, _, _, _, _, _, y_lBadRatio, y_cBadRatio⟩ }
      x0_NoRatio := x0_NoRatio
      k0_NoRatio := x_kNoRatio
      fI_BadName := fI_BadName
      low_BadName := { gC := PySem.W.mg_of X G aC_BadName, cls := ⟨nmBadName, qBadName, NBadName, bsBadName, _, snBadName, subBadName, abBadName, colBadName, ddBadName, a0BadName, a1BadName, a2BadName, a3BadName, a5BadName, y_xBadName, y_rBadName⟩, sa := y_sBadName, ga := x_gBadName, gg := x_hBadName, noN := y_nBadName, iC := y_iBadName, tC := y_tBadName, kC := x_kBadName, exC := x_bBadName, tyC := x_tBadName, hdC := x_dBadName, te := PySem.W.exm_ref x_bBadName x_dBadName x_tBadName y_eBadName, fn := ⟨_, _, _, _, _, _, _, _, _, _, _, _, _, _, y_lBadName, y_cBadName⟩ }
      fI_BadWeb := fI_BadWeb
      low_BadWeb := { gC := PySem.W.mg_of X G aC_BadWeb, cls := ⟨nmBadWeb, qBadWeb, NBadWeb, bsBadWeb, _, snBadWeb, subBadWeb, abBadWeb, colBadWeb, ddBadWeb, a0BadWeb, a1BadWeb, a2BadWeb, a3BadWeb, a5BadWeb, y_xBadWeb, y_rBadWeb⟩, sa := y_sBadWeb, ga := x_gBadWeb, gg := x_hBadWeb, noN := y_nBadWeb, iC := y_iBadWeb, tC := y_tBadWeb, kC := x_kBadWeb, exC := x_bBadWeb, tyC := x_tBadWeb, hdC := x_dBadWeb, te := PySem.W.exm_ref x_bBadWeb x_dBadWeb x_tBadWeb y_eBadWeb, fn := ⟨_, _, _, _, _, _, _, _, _, _, _, _, _, _, y_lBadWeb, y_cBadWeb⟩ }
      fI_NoName := fI_NoName
      low_NoName := { gC := PySem.W.mg_of X G aC_NoName, cls := ⟨nmNoName, qNoName, NNoName, bsNoName, _, snNoName, subNoName, abNoName, colNoName, ddNoName, a0NoName, a1NoName, a2NoName, a3NoName, a5NoName, y_xNoName, y_rNoName⟩, sa := y_sNoName, ga := x_gNoName, gg := x_hNoName, noN := y_nNoName, iC := y_iNoName, tC := y_tNoName, kC := x_kNoName, exC := x_bNoName, tyC := x_tNoName, hdC := x_dNoName, te := PySem.W.exm_ref x_bNoName x_dNoName x_tNoName y_eNoName, fn := ⟨_, _, _, _, _, _, _, _, _, _, _, _, _, _, y_lNoName, y_cNoName⟩ }
      x0_NotTied := x0_NotTied
      k0_NotTied := x_kNotTied
      fI_NotPlain := fI_NotPlain
      low_NotPlain := { gC := PySem.W.mg_of X G aC_NotPlain, cls := ⟨nmNotPlain, qNotPlain, NNotPlain, bsNotPlain, _, snNotPlain, subNotPlain, abNotPlain, colNotPlain, ddNotPlain, a0NotPlain, a1NotPlain, a2NotPlain, a3NotPlain, a5NotPlain, y_xNotPlain, y_rNotPlain⟩, sa := y_sNotPlain, ga := x_gNotPlain, gg := x_hNotPlain, noN := y_nNotPlain, iC := y_iNotPlain, tC := y_tNotPlain, kC := x_kNotPlain, exC := x_bNotPlain, tyC := x_tNotPlain, hdC := x_dNotPlain, te := PySem.W.exm_ref x_bNotPlain x_dNotPlain x_tNotPlain y_eNotPlain, fn := ⟨_, _, _, _, _, _, _, _, _, _, _, _, _, _, y_lNotPlain, y_cNotPlain⟩ }
      fI_BadValue := fI_BadValue
      low_BadValue := { gC := PySem.W.mg_of X G aC_BadValue, cls := ⟨nmBadValue, qBadValue, NBadValue, bsBadValue, _, snBadValue, subBadValue, abBadValue, colBadValue, ddBadValue, a0BadValue, a1BadValue, a2BadValue, a3BadValue, a5BadValue, y_xBadValue, y_rBadValue⟩, sa := y_sBadValue, ga := x_gBadValue, gg := x_hBadValue, noN := y_nBadValue, iC := y_iBadValue, tC := y_tBadValue, kC := x_kBadValue, exC := x_bBadValue, tyC := x_tBadValue, hdC := x_dBadValue, te := PySem.W.exm_ref x_bBadValue x_dBadValue x_tBadValue y_eBadValue, fn := ⟨_, _, _, _, _, _, _, _, _, _, _, _, _, _, y_lBadValue, y_cBadValue⟩ }
      fI_NoValue := fI_NoValue
      low_NoValue := { gC := PySem.W.mg_of X G aC_NoValue, cls := ⟨nmNoValue, qNoValue, NNoValue, bsNoValue, _, snNoValue, subNoValue, abNoValue, colNoValue, ddNoValue, a0NoValue, a1NoValue, a2NoValue, a3NoValue, a5NoValue, y_xNoValue, y_rNoValue⟩, sa := y_sNoValue, ga := x_gNoValue, gg := x_hNoValue, noN := y_nNoValue, iC := y_iNoValue, tC := y_tNoValue, kC := x_kNoValue, exC := x_bNoValue, tyC := x_tNoValue, hdC := x_dNoValue, te := PySem.W.exm_ref x_bNoValue x_dNoValue x_tNoValue y_eNoValue, fn := ⟨_, _, _, _, _, _, _, _, _, _, _, _, _, _, y_lNoValue, y_cNoValue⟩ }
      x0_BadTree := x0_BadTree
      k0_BadTree := x_kBadTree
      x0_BadStream := x0_BadStream
      k0_BadStream := x_kBadStream
      x0_BadHeights := x0_BadHeights
      k0_BadHeights := x_kBadHeights
      fI_NoTurn := fI_NoTurn
      low_NoTurn := { gC := PySem.W.mg_of X G aC_NoTurn, cls := ⟨nmNoTurn, qNoTurn, NNoTurn, bsNoTurn, _, snNoTurn, subNoTurn, abNoTurn, colNoTurn, ddNoTurn, a0NoTurn, a1NoTurn, a2NoTurn, a3NoTurn, a5NoTurn, y_xNoTurn, y_rNoTurn⟩, sa := y_sNoTurn, ga := x_gNoTurn, gg := x_hNoTurn, noN := y_nNoTurn, iC := y_iNoTurn, tC := y_tNoTurn, kC := x_kNoTurn, exC := x_bNoTurn, tyC := x_tNoTurn, hdC := x_dNoTurn, te := PySem.W.exm_ref x_bNoTurn x_dNoTurn x_tNoTurn y_eNoTurn, fn := ⟨_, _, _, _, _, _, _, _, _, _, _, _, _, _, y_lNoTurn, y_cNoTurn⟩ }
      fI_TooMany := fI_TooMany
      low_TooMany := { gC := PySem.W.mg_of X G aC_TooMany, cls := ⟨nmTooMany, qTooMany, NTooMany, bsTooMany, _, snTooMany, subTooMany, abTooMany, colTooMany, ddTooMany, a0TooMany, a1TooMany, a2TooMany, a3TooMany, a5TooMany, y_xTooMany, y_rTooMany⟩, sa := y_sTooMany, ga := x_gTooMany, gg := x_hTooMany, noN := y_nTooMany, iC := y_iTooMany, tC := y_tTooMany, kC := x_kTooMany, exC := x_bTooMany, tyC := x_tTooMany, hdC := x_dTooMany, te := PySem.W.exm_ref x_bTooMany x_dTooMany x_tTooMany y_eTooMany, fn := ⟨_, _, _, _, _, _, _, _, _, _, _, _, _, _, y_lTooMany, y_cTooMany⟩ }
      fI_BadText := fI_BadText
      low_BadText := { gC := PySem.W.mg_of X G aC_BadText, cls := ⟨nmBadText, qBadText, NBadText, bsBadText, _, snBadText, subBadText, abBadText, colBadText, ddBadText, a0BadText, a1BadText, a2BadText, a3BadText, a5BadText, y_xBadText, y_rBadText⟩, sa := y_sBadText, ga := x_gBadText, gg := x_hBadText, noN := y_nBadText, iC := y_iBadText, tC := y_tBadText, kC := x_kBadText, exC := x_bBadText, tyC := x_tBadText, hdC := x_dBadText, te := PySem.W.exm_ref x_bBadText x_dBadText x_tBadText y_eBadText, fn := ⟨_, _, _, _, _, _, _, _, _, _, _, _, _, _, y_lBadText, y_cBadText⟩ }
      fI_Worse := fI_Worse
      low_Worse := { gC := PySem.W.mg_of X G aC_Worse, cls := ⟨nmWorse, qWorse, NWorse, bsWorse, _, snWorse, subWorse, abWorse, colWorse, ddWorse, a0Worse, a1Worse, a2Worse, a3Worse, a5Worse, y_xWorse, y_rWorse⟩, sa := y_sWorse, ga := x_gWorse, gg := x_hWorse, noN := y_nWorse, noM := y_oWorse, iC := y_iWorse, tC := y_tWorse, kC := x_kWorse, exC := x_bWorse, tyC := x_tWorse, hdC := x_dWorse, te := PySem.W.exm_ref x_bWorse x_dWorse x_tWorse y_eWorse, fn := ⟨_, _, _, _, _, _, _, _, _, _, _, _, _, _, _, _, _, _, _, y_lWorse, y_cWorse⟩ }
      fI_Barred := fI_Barred
      low_Barred := { gC := PySem.W.mg_of X G aC_Barred, cls := ⟨nmBarred, qBarred, NBarred, bsBarred, _, snBarred, subBarred, abBarred, colBarred, ddBarred, a0Barred, a1Barred, a2Barred, a3Barred, a5Barred, y_xBarred, y_rBarred⟩, sa := y_sBarred, ga := x_gBarred, gg := x_hBarred, noN := y_nBarred, iC := y_iBarred, tC := y_tBarred, kC := x_kBarred, exC := x_bBarred, tyC := x_tBarred, hdC := x_dBarred, te := PySem.W.exm_ref x_bBarred x_dBarred x_tBarred y_eBarred, fn := ⟨_, _, _, _, _, _, _, _, _, _, _, _, _, _, y_lBarred, y_cBarred⟩ }
      x0_NoLine := x0_NoLine
      k0_NoLine := x_kNoLine
      mk_BadRatio := ⟨⟨x_gBadRatio, x_hBadRatio, x_bBadRatio, x_dBadRatio, x_cBadRatio, cn, ct, x_mBadRatio⟩, kitAll_at allK rfl, x_wBadRatio, x_vBadRatio⟩
      mk_NoRatio := ⟨⟨x_gNoRatio, x_hNoRatio, x_bNoRatio, x_dNoRatio, x_cNoRatio, cn, ct, x_mNoRatio⟩, kitAll_at allK rfl, x_wNoRatio, x_vNoRatio⟩
      mk_BadName := ⟨⟨x_gBadName, x_hBadName, x_bBadName, x_dBadName, x_cBadName, cn, ct, x_mBadName⟩, kitAll_at allK rfl, x_wBadName, x_vBadName⟩
      mk_BadWeb := ⟨⟨x_gBadWeb, x_hBadWeb, x_bBadWeb, x_dBadWeb, x_cBadWeb, cn, ct, x_mBadWeb⟩, kitAll_at allK rfl, x_wBadWeb, x_vBadWeb⟩
      mk_NoName := ⟨⟨x_gNoName, x_hNoName, x_bNoName, x_dNoName, x_cNoName, cn, ct, x_mNoName⟩, kitAll_at allK rfl, x_wNoName, x_vNoName⟩
      mk_NotTied := ⟨⟨x_gNotTied, x_hNotTied, x_bNotTied, x_dNotTied, x_cNotTied, cn, ct, x_mNotTied⟩, kitAll_at allK rfl, x_wNotTied, x_vNotTied⟩
      mk_NotPlain := ⟨⟨x_gNotPlain, x_hNotPlain, x_bNotPlain, x_dNotPlain, x_cNotPlain, cn, ct, x_mNotPlain⟩, kitAll_at allK rfl, x_wNotPlain, x_vNotPlain⟩
      mk_BadValue := ⟨⟨x_gBadValue, x_hBadValue, x_bBadValue, x_dBadValue, x_cBadValue, cn, ct, x_mBadValue⟩, kitAll_at allK rfl, x_wBadValue, x_vBadValue⟩
      mk_NoValue := ⟨⟨x_gNoValue, x_hNoValue, x_bNoValue, x_dNoValue, x_cNoValue, cn, ct, x_mNoValue⟩, kitAll_at allK rfl, x_wNoValue, x_vNoValue⟩
      mk_BadTree := ⟨⟨x_gBadTree, x_hBadTree, x_bBadTree, x_dBadTree, x_cBadTree, cn, ct, x_mBadTree⟩, kitAll_at allK rfl, x_wBadTree, x_vBadTree⟩
      mk_BadStream := ⟨⟨x_gBadStream, x_hBadStream, x_bBadStream, x_dBadStream, x_cBadStream, cn, ct, x_mBadStream⟩, kitAll_at allK rfl, x_wBadStream, x_vBadStream⟩
      mk_BadHeights := ⟨⟨x_gBadHeights, x_hBadHeights, x_bBadHeights, x_dBadHeights, x_cBadHeights, cn, ct, x_mBadHeights⟩, kitAll_at allK rfl, x_wBadHeights, x_vBadHeights⟩
      mk_NoTurn := ⟨⟨x_gNoTurn, x_hNoTurn, x_bNoTurn, x_dNoTurn, x_cNoTurn, cn, ct, x_mNoTurn⟩, kitAll_at allK rfl, x_wNoTurn, x_vNoTurn⟩
      mk_TooMany := ⟨⟨x_gTooMany, x_hTooMany, x_bTooMany, x_dTooMany, x_cTooMany, cn, ct, x_mTooMany⟩, kitAll_at allK rfl, x_wTooMany, x_vTooMany⟩
      mk_BadText := ⟨⟨x_gBadText, x_hBadText, x_bBadText, x_dBadText, x_cBadText, cn, ct, x_mBadText⟩, kitAll_at allK rfl, x_wBadText, x_vBadText⟩
      mk_Worse := ⟨⟨x_gWorse, x_hWorse, x_bWorse, x_dWorse, x_cWorse, cn, ct, x_mWorse⟩, kitAll_at allK rfl, x_wWorse, x_vWorse⟩
      mk_Barred := ⟨⟨x_gBarred, x_hBarred, x_bBarred, x_dBarred, x_cBarred, cn, ct, x_mBarred⟩, kitAll_at allK rfl, x_wBarred, x_vBarred⟩
      mk_NoLine := ⟨⟨x_gNoLine, x_hNoLine, x_bNoLine, x_dNoLine, x_cNoLine, cn, ct, x_mNoLine⟩, kitAll_at allK rfl, x_wNoLine, x_vNoLine⟩ }, rfl⟩
theorem walk {l : PySem.W.OpenLaw} {qq : Program} {loose : List Str} {XP : (Str → Option Value) → Heap → Prop} {YP : World → Heap → Prop} {d : DefRec} {K : Params → PySem.W.Frag} (hn : l.most = some 63) (hdf : d.params.defaults = []) (hY : ∀ (w : World) (h : Heap), YP w h → (K w.params).In h)
    (F : ∀ (w : World) (mg : Str → Option Value) (fa : Addr) (h : Heap), (K w.params).In h → h.Ns mainGlobals mg → mg d.name = some (.ref fa) → ∃ T : TX (K w.params) mg, T.f_law = fa) : PySem.W.WalkO qq loose XP YP l.row.toRowW d [] (fun f vs => PySem.call f vs) := by
  refine walkG (n := 63) (k := 7) (g := spLawN) hn (by decide) hdf ⟨rfl, by decide, by decide⟩ hY (fun w mg fa h KX G hmg base _ _ => ?_) fun K H a ns hl hS => ⟨a, ns, rfl, hS, hl, fun _ => rfl⟩
  obtain ⟨T, rfl⟩ := F w mg fa h KX G hmg
  exact g_law T
end RR
open PySem PySem.W PyProof.Rows
set_option maxRecDepth 100000 in
set_option maxHeartbeats 0 in
theorem PySem.Challenge.cw_sixasone_k97_errors_made_holds : PySem.Challenge.rw_sixasone_k97_errors_made.Holds := by
  w_on; o_law; k_head; (case hw => w_witness2)
  k_fill
  refine RR.walk (l := PySem.Challenge.rw_sixasone_k97_errors_made) rfl rfl (fun w h Y => PySem.W.kIn_of Y) ?F
  case F =>
    intro w mg fa h KX G hmg
    refine' RR.build KX G hmg ?aC_WebError ?aC_BadRatio ?aC_NoRatio ?aC_BadName ?aC_BadWeb ?aC_NoName ?aC_NotTied ?aC_NotPlain ?aC_BadValue ?aC_NoValue ?aC_BadTree ?aC_BadStream ?aC_BadHeights ?aC_NoTurn ?aC_TooMany ?aC_BadText ?aC_Worse ?aC_Barred ?aC_NoLine ?cn ?ct ?x_kBadRatio ?x_bBadRatio ?x_tBadRatio ?x_gBadRatio ?x_hBadRatio ?x_dBadRatio ?x_cBadRatio ?x_mBadRatio ?x_vBadRatio ?x_wBadRatio ?y_xBadRatio ?y_rBadRatio ?y_sBadRatio ?y_iBadRatio ?y_tBadRatio ?y_eBadRatio ?y_lBadRatio ?y_cBadRatio ?y_nBadRatio ?x_kNoRatio ?x_bNoRatio ?x_tNoRatio ?x_gNoRatio ?x_hNoRatio ?x_dNoRatio ?x_cNoRatio ?x_mNoRatio ?x_vNoRatio ?x_wNoRatio ?x0_NoRatio ?x_kBadName ?x_bBadName ?x_tBadName ?x_gBadName ?x_hBadName ?x_dBadName ?x_cBadName ?x_mBadName ?x_vBadName ?x_wBadName ?y_xBadName ?y_rBadName ?y_sBadName ?y_iBadName ?y_tBadName ?y_eBadName ?y_lBadName ?y_cBadName ?y_nBadName ?x_kBadWeb ?x_bBadWeb ?x_tBadWeb ?x_gBadWeb ?x_hBadWeb ?x_dBadWeb ?x_cBadWeb ?x_mBadWeb ?x_vBadWeb ?x_wBadWeb ?y_xBadWeb ?y_rBadWeb ?y_sBadWeb ?y_iBadWeb ?y_tBadWeb ?y_eBadWeb ?y_lBadWeb ?y_cBadWeb ?y_nBadWeb ?x_kNoName ?x_bNoName ?x_tNoName ?x_gNoName ?x_hNoName ?x_dNoName ?x_cNoName ?x_mNoName ?x_vNoName ?x_wNoName ?y_xNoName ?y_rNoName ?y_sNoName ?y_iNoName ?y_tNoName ?y_eNoName ?y_lNoName ?y_cNoName ?y_nNoName ?x_kNotTied ?x_bNotTied ?x_tNotTied ?x_gNotTied ?x_hNotTied ?x_dNotTied ?x_cNotTied ?x_mNotTied ?x_vNotTied ?x_wNotTied ?x0_NotTied ?x_kNotPlain ?x_bNotPlain ?x_tNotPlain ?x_gNotPlain ?x_hNotPlain ?x_dNotPlain ?x_cNotPlain ?x_mNotPlain ?x_vNotPlain ?x_wNotPlain ?y_xNotPlain ?y_rNotPlain ?y_sNotPlain ?y_iNotPlain ?y_tNotPlain ?y_eNotPlain ?y_lNotPlain ?y_cNotPlain ?y_nNotPlain ?x_kBadValue ?x_bBadValue ?x_tBadValue ?x_gBadValue ?x_hBadValue ?x_dBadValue ?x_cBadValue ?x_mBadValue ?x_vBadValue ?x_wBadValue ?y_xBadValue ?y_rBadValue ?y_sBadValue ?y_iBadValue ?y_tBadValue ?y_eBadValue ?y_lBadValue ?y_cBadValue ?y_nBadValue ?x_kNoValue ?x_bNoValue ?x_tNoValue ?x_gNoValue ?x_hNoValue ?x_dNoValue ?x_cNoValue ?x_mNoValue ?x_vNoValue ?x_wNoValue ?y_xNoValue ?y_rNoValue ?y_sNoValue ?y_iNoValue ?y_tNoValue ?y_eNoValue ?y_lNoValue ?y_cNoValue ?y_nNoValue ?x_kBadTree ?x_bBadTree ?x_tBadTree ?x_gBadTree ?x_hBadTree ?x_dBadTree ?x_cBadTree ?x_mBadTree ?x_vBadTree ?x_wBadTree ?x0_BadTree ?x_kBadStream ?x_bBadStream ?x_tBadStream ?x_gBadStream ?x_hBadStream ?x_dBadStream ?x_cBadStream ?x_mBadStream ?x_vBadStream ?x_wBadStream ?x0_BadStream ?x_kBadHeights ?x_bBadHeights ?x_tBadHeights ?x_gBadHeights ?x_hBadHeights ?x_dBadHeights ?x_cBadHeights ?x_mBadHeights ?x_vBadHeights ?x_wBadHeights ?x0_BadHeights ?x_kNoTurn ?x_bNoTurn ?x_tNoTurn ?x_gNoTurn ?x_hNoTurn ?x_dNoTurn ?x_cNoTurn ?x_mNoTurn ?x_vNoTurn ?x_wNoTurn ?y_xNoTurn ?y_rNoTurn ?y_sNoTurn ?y_iNoTurn ?y_tNoTurn ?y_eNoTurn ?y_lNoTurn ?y_cNoTurn ?y_nNoTurn ?x_kTooMany ?x_bTooMany ?x_tTooMany ?x_gTooMany ?x_hTooMany ?x_dTooMany ?x_cTooMany ?x_mTooMany ?x_vTooMany ?x_wTooMany ?y_xTooMany ?y_rTooMany ?y_sTooMany ?y_iTooMany ?y_tTooMany ?y_eTooMany ?y_lTooMany ?y_cTooMany ?y_nTooMany ?x_kBadText ?x_bBadText ?x_tBadText ?x_gBadText ?x_hBadText ?x_dBadText ?x_cBadText ?x_mBadText ?x_vBadText ?x_wBadText ?y_xBadText ?y_rBadText ?y_sBadText ?y_iBadText ?y_tBadText ?y_eBadText ?y_lBadText ?y_cBadText ?y_nBadText ?x_kWorse ?x_bWorse ?x_tWorse ?x_gWorse ?x_hWorse ?x_dWorse ?x_cWorse ?x_mWorse ?x_vWorse ?x_wWorse ?y_xWorse ?y_rWorse ?y_sWorse ?y_iWorse ?y_tWorse ?y_eWorse ?y_lWorse ?y_cWorse ?y_nWorse ?y_oWorse ?x_kBarred ?x_bBarred ?x_tBarred ?x_gBarred ?x_hBarred ?x_dBarred ?x_cBarred ?x_mBarred ?x_vBarred ?x_wBarred ?y_xBarred ?y_rBarred ?y_sBarred ?y_iBarred ?y_tBarred ?y_eBarred ?y_lBarred ?y_cBarred ?y_nBarred ?x_kNoLine ?x_bNoLine ?x_tNoLine ?x_gNoLine ?x_hNoLine ?x_dNoLine ?x_cNoLine ?x_mNoLine ?x_vNoLine ?x_wNoLine ?x0_NoLine ?allK ?a__law_pen ?l__law_pen ?c__law_pen ?k__law_pen ?a__law_draw ?l__law_draw ?c__law_draw ?k__law_draw ?a__law_pick ?l__law_pick ?c__law_pick ?k__law_pick ?a__law_marks ?l__law_marks ?c__law_marks ?k__law_marks ?a__law_is_alone ?l__law_is_alone ?c__law_is_alone ?k__law_is_alone ?a__law_value ?l__law_value ?c__law_value ?k__law_value ?a__law_bare_right ?l__law_bare_right ?c__law_bare_right ?k__law_bare_right ?a__law_right ?l__law_right ?c__law_right ?k__law_right ?a_law ?l_law ?c_law ?k_law ?z_int ?z_list ?z_len ?z_abs ?z_isinstance ?z_ValueError ?z_repr ?z_range ?z_enumerate ?z_zip
    (case aC_WebError => k_is)
    (case aC_BadRatio => k_is)
    (case aC_NoRatio => k_is)
    (case aC_BadName => k_is)
    (case aC_BadWeb => k_is)
    (case aC_NoName => k_is)
    (case aC_NotTied => k_is)
    (case aC_NotPlain => k_is)
    (case aC_BadValue => k_is)
    (case aC_NoValue => k_is)
    (case aC_BadTree => k_is)
    (case aC_BadStream => k_is)
    (case aC_BadHeights => k_is)
    (case aC_NoTurn => k_is)
    (case aC_TooMany => k_is)
    (case aC_BadText => k_is)
    (case aC_Worse => k_is)
    (case aC_Barred => k_is)
    (case aC_NoLine => k_is)
    (case cn => k_is)
    (case ct => k_is)
    (case x_kBadRatio => k_is)
    (case x_bBadRatio => k_is)
    (case x_tBadRatio => k_is)
    (case x_gBadRatio => k_is)
    (case x_hBadRatio => k_is)
    (case x_dBadRatio => k_is)
    (case x_cBadRatio => k_is)
    (case x_mBadRatio => k_is)
    (case x_vBadRatio => kit_is)
    (case x_wBadRatio => kit_is)
    (case y_xBadRatio => k_is)
    (case y_rBadRatio => (first | rfl | decide +kernel))
    (case y_sBadRatio => k_is)
    (case y_iBadRatio => k_is)
    (case y_tBadRatio => k_is)
    (case y_eBadRatio => (first | rfl | k_is))
    (case y_lBadRatio => k_is)
    (case y_cBadRatio => k_is)
    (case y_nBadRatio => k_is)
    (case x_kNoRatio => k_is)
    (case x_bNoRatio => k_is)
    (case x_tNoRatio => k_is)
    (case x_gNoRatio => k_is)
    (case x_hNoRatio => k_is)
    (case x_dNoRatio => k_is)
    (case x_cNoRatio => k_is)
    (case x_mNoRatio => k_is)
    (case x_vNoRatio => kit_is)
    (case x_wNoRatio => kit_is)
    (case x0_NoRatio => k_exc)
    (case x_kBadName => k_is)
    (case x_bBadName => k_is)
    (case x_tBadName => k_is)
    (case x_gBadName => k_is)
    (case x_hBadName => k_is)
    (case x_dBadName => k_is)
    (case x_cBadName => k_is)
    (case x_mBadName => k_is)
    (case x_vBadName => kit_is)
    (case x_wBadName => kit_is)
    (case y_xBadName => k_is)
    (case y_rBadName => (first | rfl | decide +kernel))
    (case y_sBadName => k_is)
    (case y_iBadName => k_is)
    (case y_tBadName => k_is)
    (case y_eBadName => (first | rfl | k_is))
    (case y_lBadName => k_is)
    (case y_cBadName => k_is)
    (case y_nBadName => k_is)
    (case x_kBadWeb => k_is)
    (case x_bBadWeb => k_is)
    (case x_tBadWeb => k_is)
    (case x_gBadWeb => k_is)
    (case x_hBadWeb => k_is)
    (case x_dBadWeb => k_is)
    (case x_cBadWeb => k_is)
    (case x_mBadWeb => k_is)
    (case x_vBadWeb => kit_is)
    (case x_wBadWeb => kit_is)
    (case y_xBadWeb => k_is)
    (case y_rBadWeb => (first | rfl | decide +kernel))
    (case y_sBadWeb => k_is)
    (case y_iBadWeb => k_is)
    (case y_tBadWeb => k_is)
    (case y_eBadWeb => (first | rfl | k_is))
    (case y_lBadWeb => k_is)
    (case y_cBadWeb => k_is)
    (case y_nBadWeb => k_is)
    (case x_kNoName => k_is)
    (case x_bNoName => k_is)
    (case x_tNoName => k_is)
    (case x_gNoName => k_is)
    (case x_hNoName => k_is)
    (case x_dNoName => k_is)
    (case x_cNoName => k_is)
    (case x_mNoName => k_is)
    (case x_vNoName => kit_is)
    (case x_wNoName => kit_is)
    (case y_xNoName => k_is)
    (case y_rNoName => (first | rfl | decide +kernel))
    (case y_sNoName => k_is)
    (case y_iNoName => k_is)
    (case y_tNoName => k_is)
    (case y_eNoName => (first | rfl | k_is))
    (case y_lNoName => k_is)
    (case y_cNoName => k_is)
    (case y_nNoName => k_is)
    (case x_kNotTied => k_is)
    (case x_bNotTied => k_is)
    (case x_tNotTied => k_is)
    (case x_gNotTied => k_is)
    (case x_hNotTied => k_is)
    (case x_dNotTied => k_is)
    (case x_cNotTied => k_is)
    (case x_mNotTied => k_is)
    (case x_vNotTied => kit_is)
    (case x_wNotTied => kit_is)
    (case x0_NotTied => k_exc)
    (case x_kNotPlain => k_is)
    (case x_bNotPlain => k_is)
    (case x_tNotPlain => k_is)
    (case x_gNotPlain => k_is)
    (case x_hNotPlain => k_is)
    (case x_dNotPlain => k_is)
    (case x_cNotPlain => k_is)
    (case x_mNotPlain => k_is)
    (case x_vNotPlain => kit_is)
    (case x_wNotPlain => kit_is)
    (case y_xNotPlain => k_is)
    (case y_rNotPlain => (first | rfl | decide +kernel))
    (case y_sNotPlain => k_is)
    (case y_iNotPlain => k_is)
    (case y_tNotPlain => k_is)
    (case y_eNotPlain => (first | rfl | k_is))
    (case y_lNotPlain => k_is)
    (case y_cNotPlain => k_is)
    (case y_nNotPlain => k_is)
    (case x_kBadValue => k_is)
    (case x_bBadValue => k_is)
    (case x_tBadValue => k_is)
    (case x_gBadValue => k_is)
    (case x_hBadValue => k_is)
    (case x_dBadValue => k_is)
    (case x_cBadValue => k_is)
    (case x_mBadValue => k_is)
    (case x_vBadValue => kit_is)
    (case x_wBadValue => kit_is)
    (case y_xBadValue => k_is)
    (case y_rBadValue => (first | rfl | decide +kernel))
    (case y_sBadValue => k_is)
    (case y_iBadValue => k_is)
    (case y_tBadValue => k_is)
    (case y_eBadValue => (first | rfl | k_is))
    (case y_lBadValue => k_is)
    (case y_cBadValue => k_is)
    (case y_nBadValue => k_is)
    (case x_kNoValue => k_is)
    (case x_bNoValue => k_is)
    (case x_tNoValue => k_is)
    (case x_gNoValue => k_is)
    (case x_hNoValue => k_is)
    (case x_dNoValue => k_is)
    (case x_cNoValue => k_is)
    (case x_mNoValue => k_is)
    (case x_vNoValue => kit_is)
    (case x_wNoValue => kit_is)
    (case y_xNoValue => k_is)
    (case y_rNoValue => (first | rfl | decide +kernel))
    (case y_sNoValue => k_is)
    (case y_iNoValue => k_is)
    (case y_tNoValue => k_is)
    (case y_eNoValue => (first | rfl | k_is))
    (case y_lNoValue => k_is)
    (case y_cNoValue => k_is)
    (case y_nNoValue => k_is)
    (case x_kBadTree => k_is)
    (case x_bBadTree => k_is)
    (case x_tBadTree => k_is)
    (case x_gBadTree => k_is)
    (case x_hBadTree => k_is)
    (case x_dBadTree => k_is)
    (case x_cBadTree => k_is)
    (case x_mBadTree => k_is)
    (case x_vBadTree => kit_is)
    (case x_wBadTree => kit_is)
    (case x0_BadTree => k_exc)
    (case x_kBadStream => k_is)
    (case x_bBadStream => k_is)
    (case x_tBadStream => k_is)
    (case x_gBadStream => k_is)
    (case x_hBadStream => k_is)
    (case x_dBadStream => k_is)
    (case x_cBadStream => k_is)
    (case x_mBadStream => k_is)
    (case x_vBadStream => kit_is)
    (case x_wBadStream => kit_is)
    (case x0_BadStream => k_exc)
    (case x_kBadHeights => k_is)
    (case x_bBadHeights => k_is)
    (case x_tBadHeights => k_is)
    (case x_gBadHeights => k_is)
    (case x_hBadHeights => k_is)
    (case x_dBadHeights => k_is)
    (case x_cBadHeights => k_is)
    (case x_mBadHeights => k_is)
    (case x_vBadHeights => kit_is)
    (case x_wBadHeights => kit_is)
    (case x0_BadHeights => k_exc)
    (case x_kNoTurn => k_is)
    (case x_bNoTurn => k_is)
    (case x_tNoTurn => k_is)
    (case x_gNoTurn => k_is)
    (case x_hNoTurn => k_is)
    (case x_dNoTurn => k_is)
    (case x_cNoTurn => k_is)
    (case x_mNoTurn => k_is)
    (case x_vNoTurn => kit_is)
    (case x_wNoTurn => kit_is)
    (case y_xNoTurn => k_is)
    (case y_rNoTurn => (first | rfl | decide +kernel))
    (case y_sNoTurn => k_is)
    (case y_iNoTurn => k_is)
    (case y_tNoTurn => k_is)
    (case y_eNoTurn => (first | rfl | k_is))
    (case y_lNoTurn => k_is)
    (case y_cNoTurn => k_is)
    (case y_nNoTurn => k_is)
    (case x_kTooMany => k_is)
    (case x_bTooMany => k_is)
    (case x_tTooMany => k_is)
    (case x_gTooMany => k_is)
    (case x_hTooMany => k_is)
    (case x_dTooMany => k_is)
    (case x_cTooMany => k_is)
    (case x_mTooMany => k_is)
    (case x_vTooMany => kit_is)
    (case x_wTooMany => kit_is)
    (case y_xTooMany => k_is)
    (case y_rTooMany => (first | rfl | decide +kernel))
    (case y_sTooMany => k_is)
    (case y_iTooMany => k_is)
    (case y_tTooMany => k_is)
    (case y_eTooMany => (first | rfl | k_is))
    (case y_lTooMany => k_is)
    (case y_cTooMany => k_is)
    (case y_nTooMany => k_is)
    (case x_kBadText => k_is)
    (case x_bBadText => k_is)
    (case x_tBadText => k_is)
    (case x_gBadText => k_is)
    (case x_hBadText => k_is)
    (case x_dBadText => k_is)
    (case x_cBadText => k_is)
    (case x_mBadText => k_is)
    (case x_vBadText => kit_is)
    (case x_wBadText => kit_is)
    (case y_xBadText => k_is)
    (case y_rBadText => (first | rfl | decide +kernel))
    (case y_sBadText => k_is)
    (case y_iBadText => k_is)
    (case y_tBadText => k_is)
    (case y_eBadText => (first | rfl | k_is))
    (case y_lBadText => k_is)
    (case y_cBadText => k_is)
    (case y_nBadText => k_is)
    (case x_kWorse => k_is)
    (case x_bWorse => k_is)
    (case x_tWorse => k_is)
    (case x_gWorse => k_is)
    (case x_hWorse => k_is)
    (case x_dWorse => k_is)
    (case x_cWorse => k_is)
    (case x_mWorse => k_is)
    (case x_vWorse => kit_is)
    (case x_wWorse => kit_is)
    (case y_xWorse => k_is)
    (case y_rWorse => (first | rfl | decide +kernel))
    (case y_sWorse => k_is)
    (case y_iWorse => k_is)
    (case y_tWorse => k_is)
    (case y_eWorse => (first | rfl | k_is))
    (case y_lWorse => k_is)
    (case y_cWorse => k_is)
    (case y_nWorse => k_is)
    (case y_oWorse => k_is)
    (case x_kBarred => k_is)
    (case x_bBarred => k_is)
    (case x_tBarred => k_is)
    (case x_gBarred => k_is)
    (case x_hBarred => k_is)
    (case x_dBarred => k_is)
    (case x_cBarred => k_is)
    (case x_mBarred => k_is)
    (case x_vBarred => kit_is)
    (case x_wBarred => kit_is)
    (case y_xBarred => k_is)
    (case y_rBarred => (first | rfl | decide +kernel))
    (case y_sBarred => k_is)
    (case y_iBarred => k_is)
    (case y_tBarred => k_is)
    (case y_eBarred => (first | rfl | k_is))
    (case y_lBarred => k_is)
    (case y_cBarred => k_is)
    (case y_nBarred => k_is)
    (case x_kNoLine => k_is)
    (case x_bNoLine => k_is)
    (case x_tNoLine => k_is)
    (case x_gNoLine => k_is)
    (case x_hNoLine => k_is)
    (case x_dNoLine => k_is)
    (case x_cNoLine => k_is)
    (case x_mNoLine => k_is)
    (case x_vNoLine => kit_is)
    (case x_wNoLine => kit_is)
    (case x0_NoLine => k_exc)
    (case allK => kernel_rfl)
    (case a__law_pen => k_is)
    (case l__law_pen => k_is)
    (case c__law_pen => k_is)
    (case k__law_pen => k_is)
    (case a__law_draw => k_is)
    (case l__law_draw => k_is)
    (case c__law_draw => k_is)
    (case k__law_draw => k_is)
    (case a__law_pick => k_is)
    (case l__law_pick => k_is)
    (case c__law_pick => k_is)
    (case k__law_pick => k_is)
    (case a__law_marks => k_is)
    (case l__law_marks => k_is)
    (case c__law_marks => k_is)
    (case k__law_marks => k_is)
    (case a__law_is_alone => k_is)
    (case l__law_is_alone => k_is)
    (case c__law_is_alone => k_is)
    (case k__law_is_alone => k_is)
    (case a__law_value => k_is)
    (case l__law_value => k_is)
    (case c__law_value => k_is)
    (case k__law_value => k_is)
    (case a__law_bare_right => k_is)
    (case l__law_bare_right => k_is)
    (case c__law_bare_right => k_is)
    (case k__law_bare_right => k_is)
    (case a__law_right => k_is)
    (case l__law_right => k_is)
    (case c__law_right => k_is)
    (case k__law_right => k_is)
    (case a_law => k_is)
    (case l_law => k_is)
    (case c_law => k_is)
    (case k_law => k_is)
    (case z_int => k_is)
    (case z_list => k_is)
    (case z_len => k_is)
    (case z_abs => k_is)
    (case z_isinstance => k_is)
    (case z_ValueError => k_is)
    (case z_repr => k_is)
    (case z_range => k_is)
    (case z_enumerate => k_is)
    (case z_zip => k_is)
