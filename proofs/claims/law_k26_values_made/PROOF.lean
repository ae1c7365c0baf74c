import PyProof.Rows.All
import Wide.All
import OpenK.AllK
import Wide.FinOn
import HandS.Base
import HandS.Call
import HandS.List
import HandS.Ends
import HandS.Words
import HandS.More
import KE.KOpsOwn
import HandS.IsInst
import HandS.Property
import HandS.Gcd
import HandS.Wide
import HandS.ClsMeth
import HandS.Defaults
import PyProof.SeqRoads
import PyProof.AutoListH
import PyProof.FactsAll.int
import PyProof.Rows.RuleN_abs
import PyProof.Rows.ReprR
import PyProof.FitsInt
import HandS.ForMost
import HandS.Style
import HandS.Lambda
import HandS.EndTab
import HandS.ExcIs
import HandS.ExcOwn
import HandS.ExcValue
import HandS.SetFor
import HandS.WordsExc
import HandS.MakeKw
import HandS.RaiseMore
import KE.KCallOwn
import KE.KFmtOwn
import KE.RegKCallOwn
import KE.KExcIs
import PyProof.InstEq
import HandS.SlotsOwn
import HandS.FStr
import HandS.Small
import PyProof.ReprLen
import PyProof.StrLawsRepr
import PyProof.Rows.ReprOcc
import PyProof.Conv_bool
import KE.LcSums
import PyProof.EqAt
import PyProof.MeetsIn
import HandS.Codes
import KE.IntTextText
import PyProof.ReprNest
import PyProof.StrHeap
import HandS.Iter
import HandS.Walk
import KE.GoesMore
import HandS.SortKw
import KE.SortKeyHeap
import KE.SortData
import HandS.DictComp
import HandS.DictEq
import HandS.OwnEq
import PyProof.ReprDict
import PyProof.ReprReads
import PyProof.Rows.StrReprJoin
import HandS.WordsDict
import HandS.StrMore
import PySem.Challenge.RW_sixasone_k26_values_made
set_option Elab.async false
set_option linter.all false
set_option maxRecDepth 100000
set_option maxHeartbeats 2000000
namespace RR
open PySem PySem.Spec PyProof.Rows L2

/-- no display of an object is under way -/
abbrev Free (A : Around) : Prop := A.guards = some []
theorem free_deeper {A : Around} (env : Env) (h : Free A) : Free (A.deeper env) := h

/-- a def of the text keeps its promise wherever no display is under way; C: how an error lies behind the call -/
def FnG (P : Program) (w : World) (K : PySem.W.Frag) (mg : Str → Option Value) (base : Heap) (C : CXT) (k : Nat) (f : Addr) (g : Sp) : Prop :=
  ∀ (A : Around) (out : List Env) (s : Shared) (H : Hp) (us : List Value) (vs : List V) (Q : VK) (E : XK), Room k A → Free A → Env0 P w K mg base A out s H → Vals vs us → g vs H Q E →
    codeAny (model P w) A (.call (.ref f) ⟨us, []⟩) (CR C out P w H s Q E) s

section
variable {P : Program} {w : World} {K : PySem.W.Frag} {mg : Str → Option Value} {base : Heap} {C : CXT} {j k : Nat} {f : Addr} {g g' : Sp}
theorem FnG.mono (F : FnG P w K mg base C j f g) (h : j ≤ k) : FnG P w K mg base C k f g := fun A o s H us vs Q E hr => F A o s H us vs Q E (hr.mono h)
theorem FnG.of (F : FnR P w K mg base C k f g) : FnG P w K mg base C k f g := fun A o s H us vs Q E hr _ e0 r h => F A o s H us vs Q E hr e0 r h
/-- every argument is given -/
theorem rawAll {fd : FuncData} {ps : List Str} (F : FnOk P w K mg base C k f fd ps g) (hb : Binds K fd ps []) : FnR P w K mg base C k f g :=
  (F.raw hb .nil).imp fun vs H Q E h => by show g (vs ++ []) H Q E; rw [List.append_nil]; exact h

/-- a def by its body, where no display is under way -/
theorem okGX {x qual : Str} {st : Stmt} {fd : FuncData} {N ps : List Str} (F : Fun K x qual st f fd) (S : FnScope N ps (defScope st)) (hb : Binds K fd ps []) (len : ∀ vs H Q E, g vs H Q E → vs.length = ps.length)
    (body : ∀ (cdv : Value) (A : Around) (out : List Env) (s : Shared) (H : Hp) (vs : List V) (Q : VK) (E : XK), Room k (A.deeper (envOfC qual (defScope st) s.heap.objs.size f cdv)) → Free (A.deeper (envOfC qual (defScope st) s.heap.objs.size f cdv)) → g vs H Q E →
      ∃ t, PSs (cxOf C P w K mg base N qual (defScope st) f cdv A out s H E) (defBody st) t ∧ t { nx := fun _ H' => Q .non H', rt := Q } (start N vs) H) : FnG P w K mg base C (k + 1) f g := by
  obtain ⟨oc, od, kV, doc, pm, an, cdv, ct, osl, rfl, lk, hcd⟩ := F.ex
  intro A out s H us vs Q E hr hfree e0 r hg
  have hl : vs.length = ps.length := len _ _ _ _ hg
  have kin : K.In s.heap := e0.mod.kin.keeps fun b o e => (e0.bs b o e).1
  have lim : s.heap.NoLimit := e0.mod.nolimit.keeps fun b o e => (e0.bs b o e).1
  have hu : (us ++ []).length = ps.length := by rw [List.append_nil, ← r.length]; exact hl
  have bind0 := hb s us kin hu
  rw [List.append_nil] at bind0
  have hkind : ∀ y ∈ ps.zip us, (defScope st).names.lookup y.1 = some .local ∨ ((defScope st).names.lookup y.1 = some .cell ∧ ((cellsFrom (s.heap.objs.size + 1) (defScope st).names []).lookup y.1).isSome = true) := by
    rintro ⟨n, v⟩ hy
    rcases S.par n (List.of_mem_zip hy).1 with q | q
    · exact .inl q
    · exact .inr ⟨q, PySem.W.cellsFrom_some _ _ _ (.inl q)⟩
  refine codeAny_call_function hr.depth (kin _ _ lk) rfl S.co S.gen rfl (PySem.W.codeRec_of kin hcd) (bind0 _ _ _ _ ?_)
  refine wpAny_newFunctionEnv_cells S.kind hkind fun env he s1 xx => ?_
  subst he
  refine ⟨lim.keeps xx.toInCall.keep, codeAny_func ?_⟩
  obtain ⟨t, ht, hq⟩ := body cdv A out s H vs Q E (hr.deeper _) (free_deeper _ hfree) hg
  have I : Inv (cxOf C P w K mg base N qual (defScope st) f cdv A out s H E) [] (start N vs) H s1 := inv_start S hr.hd e0 hl r xx
  refine wpAny_mono (ht.run [] s1 (start N vs) H _ I hq) (fun fl s' hs => ?_) fun e s' hs => hs
  cases fl with
  | ret u =>
    obtain ⟨v, σ', H', J, rv, q⟩ := hs
    exact ⟨v, H', J.os, J.bare, J.base, J.hok, rv, q⟩
  | next =>
    obtain ⟨σ', H', J, q⟩ := hs
    exact ⟨V.non, H', J.os, J.bare, J.base, J.hok, rfl, q⟩
  | brk =>
    obtain ⟨_, _, _, q⟩ := hs
    exact q.elim
  | cont =>
    obtain ⟨_, _, _, q⟩ := hs
    exact q.elim
/-- the same for a def that nothing leaves -/
theorem okG {x qual : Str} {st : Stmt} {fd : FuncData} {N ps : List Str} (F : Fun K x qual st f fd) (S : FnScope N ps (defScope st)) (hb : Binds K fd ps []) (len : ∀ vs H Q E, g vs H Q E → vs.length = ps.length)
    (body : ∀ (cdv : Value) (A : Around) (out : List Env) (s : Shared) (H : Hp) (vs : List V) (Q : VK) (E : XK), Room k (A.deeper (envOfC qual (defScope st) s.heap.objs.size f cdv)) → Free (A.deeper (envOfC qual (defScope st) s.heap.objs.size f cdv)) → g vs H Q E →
      ∃ t, PSs (cxOf CX0 P w K mg base N qual (defScope st) f cdv A out s H E).nox (defBody st) t ∧ t { nx := fun _ H' => Q .non H', rt := Q } (start N vs) H) : FnG P w K mg base CX0 (k + 1) f g :=
  okGX F S hb len fun cdv A out s H vs Q E h1 h2 h3 => by
    obtain ⟨t, a, b⟩ := body cdv A out s H vs Q E h1 h2 h3
    exact ⟨t, a.nox, b⟩
end

section
variable {X : Cx} {C : CXT} {pins : List (Addr × Obj)} {σ : L2.St} {H : Hp} {s : Shared} {k : Nat} {f : Addr} {g : Sp} {E : XK} {x : Str} {p pos : Pos} {e : Expr} {es : List Expr} {t : TA}
/-- how a callee's end is read by its caller -/
theorem after0 {A : Around} {Q : VK} {us : List Value} {fa : Addr} (hx : Passes C X E) (I : Inv X pins σ H s) (h : codeAny (model X.prog X.w) A (.call (.ref fa) ⟨us, []⟩) (CR C X.stack X.prog X.w H s Q E) s) :
    codeAny (model X.prog X.w) A (.call (.ref fa) ⟨us, []⟩) (fun r s' => match r with | .ok (.ret v) => EP X pins σ Q v s' | .ok _ => False | .error e => X.xe e s') s :=
  codeAny_mono h fun r s' hq => match r, hq with
    | .ok (.ret _), z => I.after z
    | .ok .next, z => z.elim
    | .ok .brk, z => z.elim
    | .ok .cont, z => z.elim
    | .error _, z => hx _ _ _ _ _ _ I z
theorem run_G {Q : VK} {us : List Value} {vs : List V} (F : FnG X.prog X.w X.K X.mg X.base C k f g) (hr : Room k X.A) (fr : Free X.A) (hx : Passes C X E) (I : Inv X pins σ H s) (r : Vals vs us) (h : g vs H Q E) :
    wpAny (model X.prog X.w) X.A (call (.ref f) us) (EP X pins σ Q) X.xe s := wpAny_call (after0 hx I (F X.A X.stack s H us vs Q E hr fr I.env0 r h))
/-- f(e, ..), f a def that wants no display under way -/
theorem pe_callG (F : FnG X.prog X.w X.K X.mg X.base C k f g) (hr : Room k X.A) (fr : Free X.A) (hg : Gl X x) (hm : X.mg x = some (.ref f)) (hk : PySem.W.keepIn X.K (.ref f) = true) (hx : Passes C X E) (ha : PA X (e :: es) t)
    (hdb : (x == ("__debug__" : Str)) = false := by decide) (he : starEach (e :: es) X.env = (false, eval e X.env) :: starEach es X.env := by rfl) (hpl : (backTo pos (starEach es X.env)).any (·.1) = false := by rfl) :
    PE X (.Call (.Name x p) (e :: es) [] pos) (tCall g [] E t) := by
  constructor
  intro pins s σ H Q I h
  apply wpAny_Call_Name_kw
  refine ld_glob I hg hm ?_ hdb
  refine PySem.W.callWith_K (h₀ := X.base) I.ok.mod.kin hk (thn (ha.run pos pins s σ H _ I h) ?_) he hpl
  rintro us s1 ⟨vs, H1, I1, r, q⟩
  refine ⟨I1.kIn, run_G F hr fr hx I1 r ?_⟩
  have q' : g (vs ++ []) H1 Q E := q
  rw [List.append_nil] at q'
  exact q'
/-- f(), likewise -/
theorem pe_callG0 (F : FnG X.prog X.w X.K X.mg X.base C k f g) (hr : Room k X.A) (fr : Free X.A) (hg : Gl X x) (hm : X.mg x = some (.ref f)) (hk : PySem.W.keepIn X.K (.ref f) = true) (hx : Passes C X E)
    (hdb : (x == ("__debug__" : Str)) = false := by decide) : PE X (.Call (.Name x p) [] [] pos) (tCall g [] E tNil) := by
  constructor
  intro pins s σ H Q I h
  apply wpAny_Call_Name_kw
  refine ld_glob I hg hm ?_ hdb
  exact PySem.W.callWith_K0 I.kIn hk (run_G (us := []) (vs := []) F hr fr hx I .nil h)
/-- f(e, ..), f a def whose arguments are all given -/
theorem pe_callR (F : FnR X.prog X.w X.K X.mg X.base C k f g) (hr : Room k X.A) (hg : Gl X x) (hm : X.mg x = some (.ref f)) (hk : PySem.W.keepIn X.K (.ref f) = true) (hx : Passes C X E) (ha : PA X (e :: es) t)
    (hdb : (x == ("__debug__" : Str)) = false := by decide) (he : starEach (e :: es) X.env = (false, eval e X.env) :: starEach es X.env := by rfl) (hpl : (backTo pos (starEach es X.env)).any (·.1) = false := by rfl) :
    PE X (.Call (.Name x p) (e :: es) [] pos) (tCall g [] E t) := by
  constructor
  intro pins s σ H Q I h
  apply wpAny_Call_Name_kw
  refine ld_glob I hg hm ?_ hdb
  refine PySem.W.callWith_K (h₀ := X.base) I.ok.mod.kin hk (thn (ha.run pos pins s σ H _ I h) ?_) he hpl
  rintro us s1 ⟨vs, H1, I1, r, q⟩
  refine ⟨I1.kIn, wpAny_call (run_fnR F hr hx I1 r ?_)⟩
  have q' : g (vs ++ []) H1 Q E := q
  rw [List.append_nil] at q'
  exact q'
/-- an expression that is never asked -/
theorem pe_never {e : Expr} : PE X e (fun _ _ _ => False) := ⟨fun _ _ _ _ _ _ h => h.elim⟩
theorem pt_never {e : Expr} : PT X e (fun _ _ _ => False) := ⟨fun _ _ _ _ _ _ h => h.elim⟩
end
end RR
set_option maxHeartbeats 2000000
namespace RR
open PySem PySem.Spec PyProof.Rows L2

/-- the heap behind the top, with the script alone tracked (or nothing, where the script is one of the text's own lists) -/
def hpOf (a : Addr) (vs : List Value) (ns : List Int) (own : Bool) : Hp := fun b => if own = false ∧ b = a then some (.frz { cls := .type "list", data := .seq vs.toArray } (.lst (ns.map V.int))) else none
theorem hp_own (a : Addr) (vs : List Value) (ns : List Int) (b : Addr) : hpOf a vs ns true b = none := if_neg fun z => by cases z.1
theorem hp_at (a : Addr) (vs : List Value) (ns : List Int) : hpOf a vs ns false a = some (.frz { cls := .type "list", data := .seq vs.toArray } (.lst (ns.map V.int))) := if_pos ⟨rfl, rfl⟩
theorem hp_off {a b : Addr} {vs : List Value} {ns : List Int} {o : Bool} (h : b ≠ a) : hpOf a vs ns o b = none := if_neg fun z => h z.2
theorem hp_only {a b : Addr} {vs : List Value} {ns : List Int} {o : Bool} {u : HO} (h : hpOf a vs ns o b = some u) : b = a ∧ o = false ∧ u = .frz { cls := .type "list", data := .seq vs.toArray } (.lst (ns.map V.int)) := by
  by_cases hb : o = false ∧ b = a
  · have z := (if_pos hb).symm.trans h
    exact ⟨hb.2, hb.1, (Option.some.inj z).symm⟩
  · have z := (if_neg hb).symm.trans h
    cases z

/-- the law's own call, from its promise where no display is under way -/
theorem lawG {P : Program} {w : World} {K : PySem.W.Frag} {mg mb : Str → Option Value} {k : Nat} {fa a : Addr} {g : Sp} {s : Shared} {vs : List Value} {ns : List Int}
    (kin : K.In s.heap) (hns : s.heap.Ns mainGlobals mg) (hb : s.heap.Ns builtinsNs mb) (hbb : ∀ x : Str, x ≠ "__name__" → mb x = bootBuiltins x) (lim : s.heap.NoLimit) (hgen : s.gens = #[])
    (ha : s.heap.get? a = some { cls := .type "list", data := .seq vs.toArray }) (hi : IntsAre vs ns) (hl : ns.length ≤ sizeLine) (hr : Room k callerA)
    (F : ∀ base : Heap, K.In base → base.Ns mainGlobals mg → FnG P w K mg base CX0 k fa g)
    (sp : ∀ H : Hp, SqL K H a (ns.map V.int) → g [.ref a] H (fun v _ => v = .bl true) E0) :
    codeAny (model P w) callerA (.call (.ref fa) ⟨[.ref a], []⟩) (fun r s' => r = .ok (.ret (.bool true)) ∧ OldK s.heap s'.heap ∧ s'.os = s.os ∧ AllBare s'.gens) s := by
  have rv := vals_ints hi
  have main : ∀ o : Bool, (o = true → ∃ ob, K.lookup a = some ob) → (o = false → K.lookup a = none) →
      codeAny (model P w) callerA (.call (.ref fa) ⟨[.ref a], []⟩) (fun r s' => r = .ok (.ret (.bool true)) ∧ OldK s.heap s'.heap ∧ s'.os = s.os ∧ AllBare s'.gens) s := by
    intro o h1 h0
    have hok : HOk P w (hpOf a vs ns o) s.heap := fun b u z => by
      obtain ⟨rfl, -, rfl⟩ := hp_only z
      exact ⟨ha, by rw [List.length_map]; exact hl, vs, _, rv, ha⟩
    have seq : SqL K (hpOf a vs ns o) a (ns.map V.int) := by
      cases o with
      | false => exact .inl (.inr ⟨_, hp_at a vs ns⟩)
      | true =>
        obtain ⟨ob, e⟩ := h1 rfl
        have e2 := kin a ob e
        rw [ha] at e2
        cases e2
        exact .inr ⟨_, vs.toArray, _, e, rfl, rfl, rfl, by rw [List.size_toArray, hi.length]; exact hl, by simpa using rv⟩
    have keepH : ∀ {b : Addr} {ob : Obj}, s.heap.get? b = some ob → hpOf a vs ns o b = none → (hidT s.heap (hpOf a vs ns o)).get? b = some ob := fun e n => hidT_get e n
    have off : ∀ {b : Addr} {ob : Obj} {es : Array DictEntry} {ep : Nat}, s.heap.get? b = some ob → ob.data = .dict es ep → hpOf a vs ns o b = none := by
      intro b ob es ep e d
      refine hp_off fun z => ?_
      rw [z, ha] at e
      cases e
      cases (show Data.seq vs.toArray _ = Data.dict es ep from d)
    have nsH : ∀ {b : Addr} {m : Str → Option Value}, s.heap.Ns b m → (hidT s.heap (hpOf a vs ns o)).Ns b m := by
      rintro b m ⟨ob, es, ep, e, d, r⟩
      exact ⟨ob, es, ep, keepH e (off e d), d, r⟩
    have kinH : K.In (hidT s.heap (hpOf a vs ns o)) := fun b ob e => keepH (kin b ob e) (by
      cases q : hpOf a vs ns o b with
      | none => rfl
      | some u =>
        obtain ⟨rfl, z, -⟩ := hp_only q
        rw [h0 z] at e
        cases e)
    have md : Mod K mg (hidT s.heap (hpOf a vs ns o)) := ⟨kinH, nsH hns, ⟨mb, nsH hb, hbb⟩, by
      obtain ⟨mc, y1, y2⟩ := lim
      exact ⟨mc, nsH y1, y2⟩⟩
    have e0 : Env0 P w K mg (hidT s.heap (hpOf a vs ns o)) callerA [] s (hpOf a vs ns o) :=
      { frames := rfl, mod := md, bs := fun b ob e => of_hidT e, bsz := Nat.le_of_eq (hidT_size _ _), funs := trivial, frf := fun b z => absurd (show b ∈ ([] : List Addr) from z) (by simp), hok := hok, bare := .of_eq hgen }
    have z := F _ kinH (nsH hns) callerA [] s (hpOf a vs ns o) [.ref a] [.ref a] _ E0 hr rfl e0 (.cons rfl .nil) (sp _ seq)
    refine codeAny_mono z fun r s' h => ?_
    match r, h with
    | .error _, h => exact (show False from h).elim
    | .ok .next, h => exact h.elim
    | .ok .brk, h => exact h.elim
    | .ok .cont, h => exact h.elim
    | .ok (.ret u), h =>
      obtain ⟨v, H', os, bare, un, hok', r', q⟩ := h
      cases (show v = .bl true from q)
      cases (show u = Value.bool true from r')
      refine ⟨rfl, OldK.of_keep fun b ob e => ?_, os, bare⟩
      cases q2 : hpOf a vs ns o b with
      | none => exact un.keep b ob e q2 (fun z => absurd (show b ∈ ([] : List Addr) from z) (by simp)) (by simp)
      | some u =>
        obtain ⟨rfl, -, rfl⟩ := hp_only q2
        have y := (hok' b _ (un.frzs b _ _ q2)).1
        rw [ha] at e
        cases e
        exact y
  cases hk : K.lookup a with
  | some ob => exact main true (fun _ => ⟨ob, hk⟩) fun z => by cases z
  | none => exact main false (fun z => by cases z) fun _ => hk

/-- the goal that k_head leaves, from the law's promise -/
theorem walkG {l : PySem.W.OpenLaw} {n k : Nat} {q : Program} {loose : List Str} {XP : (Str → Option Value) → Heap → Prop} {YP : World → Heap → Prop} {d : DefRec} {K : Params → PySem.W.Frag} {g : PySem.W.Frag → Sp}
    (hn : l.most = some n) (hn2 : n ≤ sizeLine) (hdf : d.params.defaults = []) (hr : Room k callerA) (hY : ∀ (w : World) (h : Heap), YP w h → (K w.params).In h)
    (F : ∀ (w : World) (mg : Str → Option Value) (fa : Addr) (h : Heap), (K w.params).In h → h.Ns mainGlobals mg → mg d.name = some (.ref fa) →
      ∀ base : Heap, (K w.params).In base → base.Ns mainGlobals mg → FnG l.prog w (K w.params) mg base CX0 k fa (g (K w.params)))
    (sp : ∀ (K : PySem.W.Frag) (H : Hp) (a : Addr) (ns : List Int), ns.length ≤ n → SqL K H a (ns.map V.int) → g K [.ref a] H (fun v _ => v = .bl true) E0) :
    PySem.W.WalkO q loose XP YP l.row.toRowW d [] (fun f vs => PySem.call f vs) := by
  refine Att.attach_call hn hdf fun w s0 s mg mb fa o pm cd doc a vs ns G Y ho hd hcd hmg hobj hints hlen hg => ?_
  have kin := hY w _ Y
  exact lawG kin G.T.g G.T.b G.T.builtins G.T.nolimit hg hobj hints (Nat.le_trans hlen hn2) hr (F w mg fa _ kin G.T.g hmg) fun H hS => sp _ H a ns hlen hS
end RR
set_option maxHeartbeats 4000000
namespace RR
open PySem PySem.Spec PyProof.Rows L2

/-- an operator's method has answered -/
theorem back_of {P : Value → Shared → Prop} {z : V} {v : Value} {s' : Shared} (r : RelV z v) (h : P v s') : PySem.W.CmpBack P v s' := by
  cases z with
  | non => obtain rfl : v = .none := r; exact h
  | bl b => obtain rfl : v = .bool b := r; exact h
  | int i => obtain ⟨t, rfl⟩ := r; exact h
  | str x => obtain ⟨t, rfl⟩ := r; exact h
  | byt b => obtain ⟨t, rfl⟩ := r; exact h
  | flt b => obtain ⟨t, rfl⟩ := r; exact h
  | ref a => obtain rfl : v = .ref a := r; exact h
  | ty n => obtain rfl : v = .type n := r; exact h

/-- an int, or an instance of the class at C -/
def IntOr (C : Addr) (H : Hp) (y : V) : Prop := (∃ i, y = .int i) ∨ ∃ b dx fs, y = .ref b ∧ H b = some (.ins C dx fs)

/-- what the text says of the class at C and one of its operators -/
structure BinOf (K : PySem.W.Frag) (C : Addr) (op : Operator) (f : Addr) (rc fo ro : Option Value) : Prop where
  sf : PySem.W.selfFirst K C = true
  hs : PySem.W.findIn K (.ref C) (PySem.dunder op.info.2) = some (some (.ref f))
  hf : PySem.W.isFn K (.ref f) = true
  hr : PySem.W.findIn K (.ref C) (dunderR op.info.2) = some rc
  hp : rc = none ∨ ∃ q : Addr, rc = some (.ref q)
  h1 : PySem.W.findIn K (.type "int") (PySem.dunder op.info.2) = some fo
  h2 : PySem.W.findIn K (.type "int") (dunderR op.info.2) = some ro
  sub : PySem.W.subIn K (.type "int") (.ref C) = some false

section
variable {X : Cx} {CX : CXT} {pins : List (Addr × Obj)} {σ : L2.St} {H : Hp} {s : Shared} {C f : Addr} {n : Nat} {g : Sp} {E : XK} {op : Operator} {rc fo ro : Option Value}

theorem inst_of {a dx : Addr} {fs : List (Str × V)} (I : Inv X pins σ H s) (ea : H a = some (.ins C dx fs)) : ∃ od, PySem.W.InstAt s.heap a (PySem.W.instObj C dx) C (some od) := by
  obtain ⟨mA, O, _⟩ := ins_get I.hok ea
  obtain ⟨od, J, _⟩ := O.look
  exact ⟨od, J⟩

/-- x op y, x an instance of the class, y an int or another one: the method's promise -/
def rOpL (C : Addr) (g : Sp) (E : XK) : R2 := fun x y H Q => (∃ a dx fs, x = .ref a ∧ H a = some (.ins C dx fs)) ∧ IntOr C H y ∧ g [x, y] H Q E
theorem op_ownL (T : BinOf X.K C op f rc fo ro) (F : FnR X.prog X.w X.K X.mg X.base CX n f g) (hr : Room n X.A) (hx : Passes CX X E) : OpR X (binaryOp op) (rOpL C g E) := by
  intro pins s σ H x y v u Q I rx ry h
  obtain ⟨⟨a, dx, fs, rfl, ea⟩, hy, q⟩ := h
  obtain rfl : v = .ref a := rx
  obtain ⟨od, J⟩ := inst_of I ea
  obtain ⟨m, fr⟩ := I.fr
  have run : wpAny (model X.prog X.w) X.A (call (.ref f) [.ref a, u]) (PySem.W.CmpBack (EP X pins σ Q)) X.xe s := by
    refine wpAny_mono (wpAny_call (run_fnR (us := [.ref a, u]) (vs := [.ref a, y]) F hr hx I (.cons rfl (.cons ry .nil)) q)) ?_ fun _ _ z => z
    rintro z s2 ⟨z', H2, I2, rz, qz⟩
    exact back_of rz ⟨z', H2, I2, rz, qz⟩
  rcases hy with ⟨i, rfl⟩ | ⟨b, dy, gs, rfl, eb⟩
  · obtain ⟨t, rfl⟩ := ry
    exact PySem.W.ksp_binT fr I.ok.mod.kin J rfl T.sf T.hs T.hf T.hr T.hp T.h1 T.h2 T.sub run
  · obtain rfl : u = .ref b := ry
    obtain ⟨od', J'⟩ := inst_of I eb
    exact PySem.W.binop_K fr I.ok.mod.kin J J'.type T.sf T.hs T.hf run

/-- -x, x an instance -/
def rNegO (C : Addr) (g : Sp) (E : XK) : V → Hp → VK → Prop := fun x H Q => (∃ a dx fs, x = .ref a ∧ H a = some (.ins C dx fs)) ∧ g [x] H Q E
theorem un_negO (hs : PySem.W.findIn X.K (.ref C) "__neg__" = some (some (.ref f))) (hf : PySem.W.isFn X.K (.ref f) = true) (F : FnR X.prog X.w X.K X.mg X.base CX n f g) (hr : Room n X.A) (hx : Passes CX X E) : UnR X (unaryOp .USub) (rNegO C g E) := by
  intro pins s σ H x v Q I rx h
  obtain ⟨⟨a, dx, fs, rfl, ea⟩, q⟩ := h
  obtain rfl : v = .ref a := rx
  obtain ⟨od, J⟩ := inst_of I ea
  obtain ⟨m, fr⟩ := I.fr
  exact PySem.W.ksp_neg fr I.ok.mod.kin J hs hf (wpAny_call (run_fnR (us := [.ref a]) (vs := [.ref a]) F hr hx I (.cons rfl .nil) q))

/-- x < y and its like, x an instance, y an int or another one -/
theorem op_cmpL {cop : CmpOp} (hop : ∀ a b, compareOp cop a b = richCompare cop a b) (hs : PySem.W.findIn X.K (.ref C) (cmpInfo cop).2.1 = some (some (.ref f))) (hf : PySem.W.isFn X.K (.ref f) = true)
    (n1 : PySem.W.notFirst X.K C (.type "int") = true) (n2 : PySem.W.notFirst X.K C (.ref C) = true) (F : FnR X.prog X.w X.K X.mg X.base CX n f g) (hr : Room n X.A) (hx : Passes CX X E) : OpR X (compareOp cop) (rOpL C g E) := by
  intro pins s σ H x y v u Q I rx ry h
  obtain ⟨⟨a, dx, fs, rfl, ea⟩, hy, q⟩ := h
  obtain rfl : v = .ref a := rx
  obtain ⟨od, J⟩ := inst_of I ea
  obtain ⟨m, fr⟩ := I.fr
  have run : wpAny (model X.prog X.w) X.A (call (.ref f) [.ref a, u]) (PySem.W.CmpBack (EP X pins σ Q)) X.xe s := by
    refine wpAny_mono (wpAny_call (run_fnR (us := [.ref a, u]) (vs := [.ref a, y]) F hr hx I (.cons rfl (.cons ry .nil)) q)) ?_ fun _ _ z => z
    rintro z s2 ⟨z', H2, I2, rz, qz⟩
    exact back_of rz ⟨z', H2, I2, rz, qz⟩
  rw [hop]
  rcases hy with ⟨i, rfl⟩ | ⟨b, dy, gs, rfl, eb⟩
  · obtain ⟨t, rfl⟩ := ry
    exact PySem.W.cmp_K (tb := .type "int") hr.units0 fr I.ok.mod.kin J (PySem.W.Looks.of_pure rfl) n1 hs hf run
  · obtain rfl : u = .ref b := ry
    obtain ⟨od', J'⟩ := inst_of I eb
    exact PySem.W.cmp_K (tb := .ref C) hr.units0 fr I.ok.mod.kin J J'.type n2 hs hf run
end
end RR
set_option maxHeartbeats 4000000
namespace RR
open PySem PySem.Spec PyProof.Rows L2

/-- the int's own method declines an instance -/
def Declines (op : Operator) : Prop := ∃ (id : String) (B : Builtin), Slot "int" (PySem.dunder op.info.2) id ∧ entryFor table id = some B ∧ (∀ a b, argsOk id ⟨[a, b], []⟩) ∧
  ∀ (a : Int) (t : Tok) (l C dx : Addr), Meets (B ⟨[.int a t, .ref l], []⟩) (fun _ R s => s.heap.get? l = some (PySem.W.instObj C dx) ∧ R (.ok (.ret Value.notImplemented)) s)
theorem dec_add : Declines .Add := ⟨_, _, PySem.F.slot_int_add, PySem.F.entry_int_add, fun a b => PySem.F.args_int_add_2 a b, fun a t l C dx =>
  .of_wp fun prog w A R s h => by obtain ⟨hp, g, d, tk, os⟩ := s; obtain ⟨hl, h⟩ := h; unfold PySem.W.instObj at hl; wp_walk; exact ⟨_, rfl, h⟩⟩
theorem dec_sub : Declines .Sub := ⟨_, _, PySem.F.slot_int_sub, PySem.F.entry_int_sub, fun a b => PySem.F.args_int_sub_2 a b, fun a t l C dx =>
  .of_wp fun prog w A R s h => by obtain ⟨hp, g, d, tk, os⟩ := s; obtain ⟨hl, h⟩ := h; unfold PySem.W.instObj at hl; wp_walk; exact ⟨_, rfl, h⟩⟩
theorem dec_mul : Declines .Mult := ⟨_, _, PySem.F.slot_int_mul, PySem.F.entry_int_mul, fun a b => PySem.F.args_int_mul_2 a b, fun a t l C dx =>
  .of_wp fun prog w A R s h => by obtain ⟨hp, g, d, tk, os⟩ := s; obtain ⟨hl, h⟩ := h; unfold PySem.W.instObj at hl; wp_walk; exact ⟨_, rfl, h⟩⟩

/-- what the text says of the class at C and one of its reflected operators (f: the plain one, r: the reflected one) -/
structure RefOf (K : PySem.W.Frag) (C : Addr) (op : Operator) (f r : Addr) (fo ro : Option Value) : Prop where
  sf : PySem.W.selfFirst K C = true
  hs : PySem.W.findIn K (.ref C) (PySem.dunder op.info.2) = some (some (.ref f))
  hr : PySem.W.findIn K (.ref C) (dunderR op.info.2) = some (some (.ref r))
  hf : PySem.W.isFn K (.ref r) = true
  h1 : PySem.W.findIn K (.type "int") (PySem.dunder op.info.2) = some fo
  h2 : PySem.W.findIn K (.type "int") (dunderR op.info.2) = some ro
  full : ((fo.isSome && !isSeqSlot fo) || (ro.isSome && !isSeqSlot ro)) = true
  sub : PySem.W.subIn K (.ref C) (.type "int") = some false

section
variable {prog : Program} {w : World} {A : Around} {Er : Value → Shared → Prop} {s : Shared} {K : PySem.W.Frag} {x C dx f r : Addr} {od : Option Obj} {op : Operator} {fo ro : Option Value} {i : Int} {t : Tok}
/-- an int on the left: its method declines, then the instance's reflected one answers -/
theorem refl1 {Q : Value → Shared → Prop} (kin : K.In s.heap) (J : PySem.W.InstAt s.heap x (PySem.W.instObj C dx) C od) (T : RefOf K C op f r fo ro) (D : Declines op)
    (h : wpAny (model prog w) A (call (.ref r) [.ref x, .int i t]) (PySem.W.CmpBack Q) Er s) : wpAny (model prog w) A (binaryOp1 op.info.2 (.int i t) (.ref x)) (fun v s' => ∃ z, v = some z ∧ Q z s') Er s := by
  obtain ⟨cd, rest, hcd, hm⟩ := PySem.W.ksp_first T.sf
  obtain ⟨id, B, slot, entry, args, meets⟩ := D
  have T' := T
  obtain ⟨sf, hs, hr, hf, h1, h2, full, sub⟩ := T
  rcases hi : op.info with ⟨sym, nm⟩
  rw [hi] at hs hr h1 h2 slot
  dsimp only at hs hr h1 h2 slot
  have one := PySem.W.ksp_try kin J hr hf h
  have hx : s.heap.get? x = some (PySem.W.instObj C dx) := J.at_
  obtain ⟨hh, g, d, tt, os⟩ := s
  have L1 : PySem.W.Looks (model prog w) hh (typeOf (.int i t)) (.type "int") := PySem.W.Looks.of_pure rfl
  have L2 : PySem.W.Looks (model prog w) hh (typeOf (.ref x)) (.ref C) := J.type
  have L3 : PySem.W.Looks (model prog w) hh (fillsNumberSlot (.type "int") nm) true := by have z := PySem.W.ksp_fillsT (M := model prog w) kin h1 h2; rw [full] at z; exact z
  have L4 : PySem.W.Looks (model prog w) hh (fillsNumberSlot (.ref C) nm) true := PySem.W.fills_K kin hcd hm hs
  have L5 : PySem.W.Looks (model prog w) hh (isSubtype (.ref C) (.type "int")) false := PySem.W.looks_subIn kin sub
  have L6 : PySem.W.Looks (model prog w) hh (numberSlotInPython (.type "int") nm) false := PySem.W.Looks.of_pure rfl
  have hne : (Value.type "int" == Value.ref C) = false := Bool.eq_false_iff.mpr fun q => by cases beq_iff_eq.mp q
  have no : ∀ {R : Option Value → Shared → Prop}, R none ⟨hh, g, d, tt, os⟩ → wpAny (model prog w) A (tryMethod (.int i t) (PySem.dunder nm) (.ref x)) R Er ⟨hh, g, d, tt, os⟩ := fun {R} hR =>
    wpAny_tryMethod_declines (typeIs_int _ _ _) slot (PySem.call_meets slot (typeIs_int _ _ _) entry (args _ _) (meets i t x C dx) ⟨hx, rfl, hR⟩)
  unfold binaryOp1
  refine wpAny_bind (L1.at (wpAny_bind (L2.at (wpAny_bind (L3.at ?_)))))
  simp only [hne, Bool.false_eq_true, if_false]
  ksp_lk
  refine no ?_
  ksp_lk
  refine wpAny_mono one (fun v s' hv => ?_) fun _ _ e => e
  obtain ⟨z, rfl, hq⟩ := hv
  first
    | exact wpAny_bind (wpAny_rule (wpAny_pure ⟨z, rfl, hq⟩))
    | (ksp_lk; exact ⟨z, rfl, hq⟩)
end
end RR
set_option maxHeartbeats 4000000
namespace RR
open PySem PySem.Spec PyProof.Rows L2

/-- no in-place method of the class, nor of object -/
structure NoI (K : PySem.W.Frag) (C : Addr) (op : Operator) : Prop where
  mro : (PySem.W.clsIn K C).any (fun cd => cd.mro == [.ref C, .type "object"]) = true
  c : PySem.W.findIn K (.ref C) (dunderI op.info.2) = some none
  o : PySem.W.findIn K (.type "object") (dunderI op.info.2) = some none
  i : PySem.W.findIn K (.type "int") (dunderI op.info.2) = some none

section
variable {prog : Program} {w : World} {A : Around} {Er : Value → Shared → Prop} {s : Shared} {K : PySem.W.Frag} {x C dx f : Addr} {od : Option Obj} {op : Operator} {rc fo ro : Option Value} {b : Value}
/-- an instance on the left: its own method answers (the step that + and += share) -/
theorem left1 {ox : Obj} {Q : Value → Shared → Prop} (kin : K.In s.heap) (J : PySem.W.InstAt s.heap x ox C od) (T : BinOf K C op f rc fo ro) (hb : typeOf b = pure (.type "int") ∨ PySem.W.Looks (model prog w) s.heap (typeOf b) (.ref C))
    (h : wpAny (model prog w) A (call (.ref f) [.ref x, b]) (PySem.W.CmpBack Q) Er s) : wpAny (model prog w) A (binaryOp1 op.info.2 (.ref x) b) (fun v s' => ∃ z, v = some z ∧ Q z s') Er s := by
  obtain ⟨cd, rest, hcd, hm⟩ := PySem.W.ksp_first T.sf
  obtain ⟨sf, hs, hf, hr, hp, h1, h2, sub⟩ := T
  rcases hi : op.info with ⟨sym, nm⟩
  rw [hi] at hs hr h1 h2
  dsimp only at hs hr h1 h2
  have one := PySem.W.ksp_try kin J hs hf h
  obtain ⟨hh, g, d, tt, os⟩ := s
  have L1 : PySem.W.Looks (model prog w) hh (typeOf (.ref x)) (.ref C) := J.type
  have L3 : PySem.W.Looks (model prog w) hh (fillsNumberSlot (.ref C) nm) true := PySem.W.fills_K kin hcd hm hs
  have L6 : PySem.W.Looks (model prog w) hh (numberSlotInPython (.ref C) nm) true := PySem.W.ksp_inPy kin hs hr hp
  rcases hb with hb | hb
  · have L2 : PySem.W.Looks (model prog w) hh (typeOf b) (.type "int") := PySem.W.Looks.of_pure hb
    have L4 := PySem.W.ksp_fillsT (M := model prog w) kin h1 h2
    have L5 : PySem.W.Looks (model prog w) hh (isSubtype (.type "int") (.ref C)) false := PySem.W.looks_subIn kin sub
    have L7 : PySem.W.Looks (model prog w) hh (numberSlotInPython (.type "int") nm) false := PySem.W.Looks.of_pure rfl
    have L8 : PySem.W.Looks (model prog w) hh (typeLookup (.type "int") (dunderR nm)) ro := PySem.W.looks_findIn kin h2
    generalize ((fo.isSome && !isSeqSlot fo) || (ro.isSome && !isSeqSlot ro)) = right at L4
    have hne : (Value.ref C == Value.type "int") = false := Bool.eq_false_iff.mpr fun q => by cases beq_iff_eq.mp q
    unfold binaryOp1
    refine wpAny_bind (L1.at (wpAny_bind (L2.at (wpAny_bind (L3.at ?_)))))
    simp only [hne, Bool.false_eq_true, if_false]
    cases right with
    | false =>
      ksp_lk
      refine wpAny_mono one (fun v s' hv => ?_) fun _ _ e => e
      obtain ⟨z, rfl, hq⟩ := hv
      ksp_lk
      exact ⟨z, rfl, hq⟩
    | true =>
      ksp_lk
      refine wpAny_mono one (fun v s' hv => ?_) fun _ _ e => e
      obtain ⟨z, rfl, hq⟩ := hv
      ksp_lk
      exact ⟨z, rfl, hq⟩
  · have L2 : PySem.W.Looks (model prog w) hh (typeOf b) (.ref C) := hb
    unfold binaryOp1
    refine wpAny_bind (L1.at (wpAny_bind (L2.at (wpAny_bind (L3.at ?_)))))
    simp only [beq_self_eq_true, if_true]
    ksp_lk
    refine wpAny_mono one (fun v s' hv => ?_) fun _ _ e => e
    obtain ⟨z, rfl, hq⟩ := hv
    ksp_lk
    exact ⟨z, rfl, hq⟩

theorem noI_C (kin : K.In s.heap) (T : NoI K C op) {add : Bool} : PySem.W.Looks (model prog w) s.heap (fillsInplaceSlot (.ref C) op.info.2 add) false := by
  obtain ⟨cd, hcd, hm⟩ := PySem.W.any_some T.mro
  have hm' : cd.mro = [.ref C, .type "object"] := beq_iff_eq.mp hm
  intro A Q E s2 k q
  have Lm : PySem.W.Looks (model prog w) s.heap (mroOf (.ref C)) cd.mro := (PySem.W.looks_clsIn kin hcd).andThen (f := fun cd => pure cd.mro) .now
  have Lm2 := Lm.keeps k
  have kin2 : K.In s2.heap := kin.keeps k
  obtain ⟨hh, g, d, tt, os⟩ := s2
  have L1 : PySem.W.Looks (model prog w) hh (typeLookup (.ref C) (dunderI op.info.2)) none := PySem.W.looks_findIn kin2 T.c
  have L2 : PySem.W.Looks (model prog w) hh (typeLookup (.type "object") (dunderI op.info.2)) none := PySem.W.looks_findIn kin2 T.o
  unfold fillsInplaceSlot
  refine wpAny_bind (Lm2.at ?_)
  rw [hm', List.anyM_cons]
  refine wpAny_bind ?_
  repeat lk
  exact q
theorem noI_int (kin : K.In s.heap) (T : NoI K C op) {add : Bool} : PySem.W.Looks (model prog w) s.heap (fillsInplaceSlot (.type "int") op.info.2 add) false := by
  intro A Q E s2 k q
  have kin2 : K.In s2.heap := kin.keeps k
  obtain ⟨hh, g, d, tt, os⟩ := s2
  have L1 : PySem.W.Looks (model prog w) hh (typeLookup (.type "int") (dunderI op.info.2)) none := PySem.W.looks_findIn kin2 T.i
  unfold fillsInplaceSlot
  repeat lk
  exact q
end
end RR
set_option maxHeartbeats 4000000
namespace RR
open PySem PySem.Spec PyProof.Rows L2

section
variable {X : Cx} {CX : CXT} {pins : List (Addr × Obj)} {σ : L2.St} {H : Hp} {s : Shared} {C f r : Addr} {n : Nat} {g g' : Sp} {E : XK} {op : Operator} {rc fo ro : Option Value}

/-- i op y, i an int, y an instance: the reflected method's promise -/
def rOpR (C : Addr) (g : Sp) (E : XK) : R2 := fun x y H Q => (∃ i, x = .int i) ∧ (∃ a dx fs, y = .ref a ∧ H a = some (.ins C dx fs)) ∧ g [y, x] H Q E
theorem run_refl (T : RefOf X.K C op f r fo ro) (D : Declines op) (F : FnR X.prog X.w X.K X.mg X.base CX n r g) (hr : Room n X.A) (hx : Passes CX X E) {x y : V} {v u : Value} {Q : VK} (I : Inv X pins σ H s) (rx : RelV x v) (ry : RelV y u) (h : rOpR C g E x y H Q) :
    wpAny (model X.prog X.w) X.A (binaryOp1 op.info.2 v u) (fun v s' => ∃ z, v = some z ∧ EP X pins σ Q z s') X.xe s := by
  obtain ⟨⟨i, rfl⟩, ⟨a, dx, fs, rfl, ea⟩, q⟩ := h
  obtain rfl : u = .ref a := ry
  have rx' := rx
  obtain ⟨t, rfl⟩ := rx
  obtain ⟨od, J⟩ := inst_of I ea
  refine refl1 I.kIn J T D ?_
  refine wpAny_mono (wpAny_call (run_fnR (us := [.ref a, .int i t]) (vs := [.ref a, .int i]) F hr hx I (.cons rfl (.cons rx' .nil)) q)) ?_ fun _ _ z => z
  rintro z s2 ⟨z', H2, I2, rz, qz⟩
  exact back_of rz ⟨z', H2, I2, rz, qz⟩
theorem run_left (T : BinOf X.K C op f rc fo ro) (F : FnR X.prog X.w X.K X.mg X.base CX n f g) (hr : Room n X.A) (hx : Passes CX X E) {x y : V} {v u : Value} {Q : VK} (I : Inv X pins σ H s) (rx : RelV x v) (ry : RelV y u) (h : rOpL C g E x y H Q) :
    wpAny (model X.prog X.w) X.A (binaryOp1 op.info.2 v u) (fun v s' => ∃ z, v = some z ∧ EP X pins σ Q z s') X.xe s := by
  obtain ⟨⟨a, dx, fs, rfl, ea⟩, hy, q⟩ := h
  obtain rfl : v = .ref a := rx
  obtain ⟨od, J⟩ := inst_of I ea
  have hb : typeOf u = pure (.type "int") ∨ PySem.W.Looks (model X.prog X.w) s.heap (typeOf u) (.ref C) := by
    rcases hy with ⟨i, rfl⟩ | ⟨b, dy, gs, rfl, eb⟩
    · obtain ⟨t, rfl⟩ := ry
      exact .inl rfl
    · obtain rfl : u = .ref b := ry
      obtain ⟨od', J'⟩ := inst_of I eb
      exact .inr J'.type
  refine left1 I.kIn J T hb ?_
  refine wpAny_mono (wpAny_call (run_fnR (us := [.ref a, u]) (vs := [.ref a, y]) F hr hx I (.cons rfl (.cons ry .nil)) q)) ?_ fun _ _ z => z
  rintro z s2 ⟨z', H2, I2, rz, qz⟩
  exact back_of rz ⟨z', H2, I2, rz, qz⟩

theorem op_ownR (T : RefOf X.K C op f r fo ro) (D : Declines op) (F : FnR X.prog X.w X.K X.mg X.base CX n r g) (hr : Room n X.A) (hx : Passes CX X E) : OpR X (binaryOp op) (rOpR C g E) := by
  intro pins s σ H x y v u Q I rx ry h
  have z := run_refl T D F hr hx I rx ry h
  rcases hi : op.info with ⟨sym, nm⟩
  rw [hi] at z
  simp only [binaryOp, hi]
  refine wpAny_holding (wpAny_bind (wpAny_mono z ?_ fun _ _ e => e))
  rintro v s' ⟨z, rfl, hq⟩
  exact wpAny_pure hq

/-- x op= y where the class has no in-place method: as x op y -/
def rOpI (C : Addr) (g g' : Sp) (E : XK) : TIp := fun x y H Q => rOpL C g E x y H Q ∨ rOpR C g' E x y H Q
theorem ip_own (T : BinOf X.K C op f rc fo ro) (F : FnR X.prog X.w X.K X.mg X.base CX n f g) (T' : RefOf X.K C op f r fo ro) (D : Declines op) (F' : FnR X.prog X.w X.K X.mg X.base CX n r g') (N : NoI X.K C op) (hr : Room n X.A) (hx : Passes CX X E) :
    PIp X op (rOpI C g g' E) := by
  intro pins s σ H x y v u Q I rx ry h
  have fin : ∀ {a : Value}, wpAny (model X.prog X.w) X.A (binaryOp1 op.info.2 v u) (fun v s' => ∃ z, v = some z ∧ EP X pins σ Q z s') X.xe s → PySem.W.Looks (model X.prog X.w) s.heap (typeOf v) a →
      PySem.W.Looks (model X.prog X.w) s.heap (fillsInplaceSlot a op.info.2 (op == .Add)) false → wpAny (model X.prog X.w) X.A (inplaceOp op v u) (EP X pins σ Q) X.xe s := by
    intro a z l1 l2
    obtain ⟨hh, gg, d, tt, os⟩ := s
    unfold inplaceOp
    refine wpAny_holding ?_
    refine wpAny_bind (l1.at (wpAny_bind (l2.at ?_)))
    rw [if_neg Bool.false_ne_true]
    refine wpAny_bind (wpAny_mono z ?_ fun _ _ e => e)
    rintro v s' ⟨z, rfl, hq⟩
    exact wpAny_pure hq
  rcases h with h | h
  · have z := run_left T F hr hx I rx ry h
    obtain ⟨⟨a, dx, fs, rfl, ea⟩, hy, q⟩ := h
    obtain rfl : v = .ref a := rx
    obtain ⟨od, J⟩ := inst_of I ea
    exact fin z J.type (noI_C I.kIn N)
  · have z := run_refl T' D F' hr hx I rx ry h
    obtain ⟨⟨i, rfl⟩, _, _⟩ := h
    obtain ⟨t, rfl⟩ := rx
    exact fin z (PySem.W.Looks.of_pure rfl) (noI_int I.kIn N)

/-- abs(x), x an instance -/
def rAbsO (C : Addr) (g : Sp) (E : XK) : List V → Hp → VK → Prop := fun xs H Q => (∃ a dx fs, xs = [.ref a] ∧ H a = some (.ins C dx fs)) ∧ g xs H Q E
theorem call_absO (hs : PySem.W.findIn X.K (.ref C) "__abs__" = some (some (.ref f))) (hf : PySem.W.isFn X.K (.ref f) = true) (F : FnR X.prog X.w X.K X.mg X.base CX n f g) (hr : Room (n + 1) X.A) (hx : Passes CX X E) : CallR X (.builtin "abs") (rAbsO C g E) := by
  intro pins s σ H xs us Q I rv h
  obtain ⟨⟨a, dx, fs, rfl, ea⟩, q⟩ := h
  obtain ⟨u, rfl, ru⟩ := rv.one
  obtain rfl : u = .ref a := ru
  obtain ⟨od, J⟩ := inst_of I ea
  refine Calls.call_function_entry kind_abs plain_abs entry_abs (args_abs _) ?_
  unfold Builtin.«abs»
  refine wpAny_bind (m := oneArg "abs" _) (wpAny_pure ?_)
  refine wpAny_bind (PySem.W.special_fn (f := f) I.kIn J hs (beq_iff_eq.mp hf) ?_)
  refine wpAny_mono (wpAny_call ?_) (Q := EP X pins σ Q) (E := X.xe) ?_ fun _ _ z => z
  · refine codeAny_mono (F X.A.in1 X.stack s H [.ref a] [.ref a] Q E hr.in1 I.env0.in1 (.cons rfl .nil) q) fun rr s' hq => ?_
    cases rr with
    | error e => exact hx pins σ H s e s' I hq
    | ok fl =>
      cases fl with
      | ret u => exact I.after hq
      | next => exact False.elim hq
      | brk => exact False.elim hq
      | cont => exact False.elim hq
  · intro v s' hv
    exact wpAny_pure ⟨_, rfl, hv⟩
end
end RR
set_option maxHeartbeats 4000000
namespace RR
open PySem PySem.Spec PyProof.Rows L2

/-- C.m is a static method: its record at p, its def at g -/
structure SMet (K : PySem.W.Frag) (C : Addr) (mc : Value) (m : Str) (p g : Addr) : Prop where
  ty : PySem.W.typeIn K (.ref C) = some mc
  rd : PySem.W.readsIn K C mc = true
  ga : PySem.W.specialIn K (.ref C) "__getattribute__" = some (some (.builtin "type.__getattribute__"))
  at_ : PySem.W.findCls K (.ref C) mc m = some (.get (.builtin "staticmethod.__get__") (.ref p) .none (.ref C))
  rc : ∃ rest, PySem.W.recIn K p "staticmethod" = some (.ref g :: rest)
  kp : PySem.W.keepIn K (.ref g) = true

/-- C.m(e, ..) -/
def tSMeth (C : Addr) (g : Sp) (E : XK) (ta : TE) (t : TA) : TE := fun σ H Q => ta σ H fun x H1 => x = .ref C ∧ t σ H1 fun vs H2 => g vs H2 Q E
section
variable {X : Cx} {CX : CXT} {k : Nat} {C p f : Addr} {mc : Value} {g : Sp} {E : XK} {o e : Expr} {es : List Expr} {m : Str} {pos apos : Pos} {ta : TE} {t : TA} {pl : Sem Bool}
theorem smeth_get {pins : List (Addr × Obj)} {σ : L2.St} {H : Hp} {s : Shared} {Q : Value × List Value → Shared → Prop} {A : Around} {Er : Value → Shared → Prop} (I : Inv X pins σ H s) (T : SMet X.K C mc m p f)
    (h : ∀ s', Inv X pins σ H s' → Q (.ref f, []) s') : wpAny (model X.prog X.w) A (getMethod (.ref C) m pl) Q Er s := by
  obtain ⟨rest, hp⟩ := T.rc
  obtain ⟨mm, fr⟩ := I.fr
  exact PySem.W.method_of_cls fr I.ok.mod.kin T.ga (PySem.W.cls_sm fr I.ok.mod.kin T.ty T.rd T.at_ hp rfl (h _ (I.tok _)))
theorem pe_smeth (he : PE X o ta) (T : SMet X.K C mc m p f) (F : FnR X.prog X.w X.K X.mg X.base CX k f g) (hr : Room k X.A) (hx : Passes CX X E) (ha : PA X (e :: es) t)
    (hst : starEach (e :: es) X.env = (false, eval e X.env) :: starEach es X.env := by rfl) (hpl : (backTo pos (starEach es X.env)).any (·.1) = false := by rfl)
    (ht : eval (.Call (.Attribute o m apos) (e :: es) [] pos) X.env = (do
      let ov ← eval o X.env; standAt apos.atName; let (f, first) ← holding [ov] (getMethod ov m pl)
      callWith pos f first (backTo pos (starEach (e :: es) X.env)) (backToKw pos (keywordEach [] X.env))) := by rfl) :
    PE X (.Call (.Attribute o m apos) (e :: es) [] pos) (tSMeth C g E ta t) := by
  constructor
  intro pins s σ H Q I h
  refine PySem.W.methodCall_KW (pl := pl) (thn (he.run pins s σ H _ I h) ?_) ht
  rintro u s1 ⟨x, H1, I1, rx, rfl, q⟩
  obtain rfl : u = .ref C := rx
  refine smeth_get I1 T fun s2 I2 => ?_
  refine PySem.W.callWith_K (first := []) (h₀ := X.base) I2.ok.mod.kin T.kp (thn (ha.run pos pins s2 σ H1 _ I2 q) ?_) hst hpl
  rintro us s3 ⟨vs, H2, I3, rv, q2⟩
  exact ⟨I3.kIn, wpAny_call (run_fnR F hr hx I3 rv q2)⟩
theorem pe_smeth0 (he : PE X o ta) (T : SMet X.K C mc m p f) (F : FnR X.prog X.w X.K X.mg X.base CX k f g) (hr : Room k X.A) (hx : Passes CX X E)
    (ht : eval (.Call (.Attribute o m apos) [] [] pos) X.env = (do
      let ov ← eval o X.env; standAt apos.atName; let (f, first) ← holding [ov] (getMethod ov m pl)
      callWith pos f first (backTo pos (starEach [] X.env)) (backToKw pos (keywordEach [] X.env))) := by rfl) :
    PE X (.Call (.Attribute o m apos) [] [] pos) (tSMeth C g E ta tNil) := by
  constructor
  intro pins s σ H Q I h
  refine PySem.W.methodCall_KW (pl := pl) (thn (he.run pins s σ H _ I h) ?_) ht
  rintro u s1 ⟨x, H1, I1, rx, rfl, q⟩
  obtain rfl : u = .ref C := rx
  refine smeth_get I1 T fun s2 I2 => ?_
  exact PySem.W.callWith_K0 (first := []) I2.kIn T.kp (wpAny_call (run_fnR (us := []) (vs := []) F hr hx I2 .nil q))

/-- repr(x), x a list or tuple of data -/
def rRepr (K : PySem.W.Frag) : List V → Hp → VK → Prop := fun xs H Q => ∃ a d, xs = [.ref a] ∧ Dp K H (.ref a) d ∧ d.showable = true ∧ d.hasDict = false ∧ d.depth ≤ 20 ∧ d.shown.length ≤ sizeLine ∧ Q (.str d.shown) H
theorem call_repr (hu : X.A.units + 64 < cLine) (fr : Free X.A) : CallR X (.builtin "repr") (rRepr X.K) := by
  intro pins s σ H xs us Q I rv h
  obtain ⟨a, d, rfl, hd, hs, hnd, hdep, hl, q⟩ := h
  obtain ⟨u, rfl, ru⟩ := rv.one
  obtain rfl : u = .ref a := ru
  obtain ⟨as, hr⟩ := Dp.reads I d _ _ hd (show RelV (.ref a) (.ref a) from rfl)
  refine repr_of_reads' hr hs (PyData.noDict_hsm hnd) fr (by omega) (fun _ _ e => e) (fun h' u tk hk => ?_) hl
  exact ⟨.str d.shown, H, I.kept (t' := tk) hk, ⟨u, rfl⟩, q⟩

/-- the text of a tuple of two ints -/
def ii (a b : Int) : PyData := .tuple [.int a, .int b]
theorem ii_len {a b : Int} (ha : a.natAbs.log2 < 1920) (hb : b.natAbs.log2 < 1920) : (ii a b).shown.length ≤ sizeLine := by
  have e1 := int_text_length_le (k := 1920) (by decide) ha
  have e2 := int_text_length_le (k := 1920) (by decide) hb
  show (tupleText [Str.ofString (toString a), Str.ofString (toString b)]).length ≤ _
  unfold tupleText
  rw [strLen_append, strLen_append]
  show ((("(" : String) : Str)).length + ((Str.ofString (toString a) ++ ((", " : String) : Str) ++ Str.ofString (toString b))).length + _ ≤ _
  rw [strLen_append, strLen_append, PySem.ofString_length (toString a), PySem.ofString_length (toString b), sizeLine_eq]
  have l1 : ((("(" : String) : Str)).length = 1 := rfl
  have l2 : (((", " : String) : Str)).length = 2 := rfl
  have l3 : (((if ([Str.ofString (toString a), Str.ofString (toString b)] : List Str).length == 1 then ",)" else ")" : String) : Str)).length = 1 := rfl
  rw [l1, l2, l3]
  omega
/-- repr((i, j)), the tuple tracked -/
def rReprII (K : PySem.W.Frag) : List V → Hp → VK → Prop := fun xs H Q => ∃ p a b, xs = [.ref p] ∧ SqT K H p [.int a, .int b] ∧ a.natAbs < 2 ^ 1900 ∧ b.natAbs < 2 ^ 1900 ∧ Q (.str (ii a b).shown) H
theorem log_of {n : Nat} (h : n < 2 ^ 1900) : n.log2 < 1920 := by
  have := PySem.Flt.log2_lt_of (by decide : 0 < 1900) h
  omega
theorem call_reprII (hu : X.A.units + 64 < cLine) (fr : Free X.A) : CallR X (.builtin "repr") (rReprII X.K) := by
  intro pins s σ H xs us Q I rv h
  obtain ⟨p, a, b, rfl, ht, ha, hb, q⟩ := h
  have la := log_of ha
  have lb := log_of hb
  refine call_repr hu fr pins s σ H _ us Q I rv ⟨p, ii a b, rfl, .tup ht (.cons (.int a) (.cons (.int b) .nil)), ?_, rfl, (show 0 + 1 ≤ 20 by decide), ii_len la lb, q⟩
  show (decide (a.natAbs.log2 < 1920) && (decide (b.natAbs.log2 < 1920) && true)) = true
  rw [decide_eq_true la, decide_eq_true lb]
  rfl
end
end RR
set_option maxHeartbeats 4000000
namespace RR
open PySem PySem.Spec PyProof.Rows L2

theorem hp_new {H : Hp} {a b : Addr} {o u : HO} (h : H b = some u) (n : H a = none) : upd H a o b = some u := by rw [upd_ne (ne_of_none h n)]; exact h
theorem hp_mut {H : Hp} {a b : Addr} {o u : HO} (h : H b = some u) (n : b ≠ a) : upd H a o b = some u := by rw [upd_ne n]; exact h
theorem hp_no {H : Hp} {a b : Addr} {o : HO} (h : H b = none) (n : b ≠ a) : upd H a o b = none := by rw [upd_ne n]; exact h
theorem no_back {H : Hp} {a b : Addr} {o : HO} (h : upd H a o b = none) : b ≠ a ∧ H b = none := by
  by_cases e : b = a
  · subst e; rw [upd_same] at h; cases h
  · rw [upd_ne e] at h; exact ⟨e, h⟩

/-! ### data -/
theorem dp_ints {K : PySem.W.Frag} {H : Hp} : ∀ ns : List Int, DpAll K H (ns.map V.int) (ns.map PyData.int)
  | [] => .nil
  | n :: r => .cons (.int n) (dp_ints r)
theorem lay_ints : ∀ ns : List Int, PyData.canLayAll0 (ns.map PyData.int) = true
  | [] => rfl
  | n :: r => by show (true && PyData.canLayAll0 (r.map PyData.int)) = true; rw [lay_ints r]; rfl
theorem dep_ints : ∀ ns : List Int, PyData.depthAll (ns.map PyData.int) = 0
  | [] => rfl
  | n :: r => by show max 0 (PyData.depthAll (r.map PyData.int)) = 0; rw [dep_ints r]; rfl
theorem shaped_ints (ns : List Int) : SeqAt.shaped (.list (ns.map PyData.int)) = true := by
  unfold SeqAt.shaped
  rw [Bool.and_eq_true]
  refine ⟨lay_ints ns, ?_⟩
  show decide (PyData.depthAll (ns.map PyData.int) + 1 ≤ 64) = true
  rw [dep_ints]
  rfl
theorem eqv_nil (ns : List Int) : PyData.eqv (.list (ns.map PyData.int)) (.list []) = ns.isEmpty := by
  cases ns with
  | nil => simp only [List.map_nil, PyData.eqv, PyData.eqvAll, List.isEmpty_nil]
  | cons n r => simp only [List.map_cons, PyData.eqv, PyData.eqvAll, List.isEmpty_cons]

/-! ### numbers -/
theorem fmod_lo {a m : Int} (h : 0 < m) : 0 ≤ a.fmod m := by rw [Int.fmod_eq_emod_of_nonneg a (Int.le_of_lt h)]; exact Int.emod_nonneg a (Int.ne_of_gt h)
theorem fmod_hi {a m : Int} (h : 0 < m) : a.fmod m < m := by rw [Int.fmod_eq_emod_of_nonneg a (Int.le_of_lt h)]; exact Int.emod_lt_of_pos a h
theorem len_pos {ns : List Int} (h : (!ns.isEmpty) = true) : 0 < ((ns.map V.int).length : Int) := by
  cases ns with
  | nil => cases h
  | cons n r => rw [List.length_map]; show (0 : Int) < ((r.length + 1 : Nat) : Int); omega
theorem pow3_b {b a x y z : Int} (b0 : 0 ≤ b) (b1 : b < 2147483648) (a0 : 0 ≤ a) (a1 : a ≤ 100000) (x0 : 0 ≤ x) (x1 : x < 1000) (y0 : 0 ≤ y) (y1 : y < 100000) (z0 : 0 ≤ z) (z1 : z < 1000) : (b * (2 * a + x) + y * a * a + z).natAbs < 2 ^ 64 := by
  have e1 : 0 ≤ b * (2 * a + x) := Int.mul_nonneg b0 (by omega)
  have e2 : b * (2 * a + x) ≤ 2147483648 * 201000 := Int.mul_le_mul (by omega) (by omega) (by omega) (by omega)
  have e3 : 0 ≤ y * a := Int.mul_nonneg y0 a0
  have e4 : y * a ≤ 100000 * 100000 := Int.mul_le_mul (by omega) (by omega) (by omega) (by omega)
  have e5 : 0 ≤ y * a * a := Int.mul_nonneg e3 a0
  have e6 : y * a * a ≤ (100000 * 100000) * 100000 := Int.mul_le_mul e4 (by omega) (by omega) (by omega)
  omega
theorem at_map {ns : List Int} {i : Int} (h0 : 0 ≤ i) (h1' : i < ((ns.map V.int).length : Int)) : ∃ n, n ∈ ns ∧ atI (ns.map V.int) i = some (.int n) := by
  have h1 : i < (ns.length : Int) := by rw [List.length_map] at h1'; exact h1'
  obtain ⟨k, rfl⟩ := Int.eq_ofNat_of_zero_le h0
  have hk : k < ns.length := by omega
  refine ⟨ns[k], List.getElem_mem hk, ?_⟩
  unfold atI ixN
  rw [List.length_map, if_pos h0, if_pos h1]
  show (ns.map V.int)[(k : Int).toNat]? = _
  rw [Int.toNat_natCast, List.getElem?_map, List.getElem?_eq_getElem hk]
  rfl
theorem at_some {xs : List V} {i : Int} (h0 : 0 ≤ i) (h1 : i < xs.length) : ∃ x, x ∈ xs ∧ atI xs i = some x := by
  obtain ⟨k, rfl⟩ := Int.eq_ofNat_of_zero_le h0
  have hk : k < xs.length := by omega
  refine ⟨xs[k], List.getElem_mem hk, ?_⟩
  unfold atI ixN
  rw [if_pos h0, if_pos h1]
  show xs[(k : Int).toNat]? = _
  rw [Int.toNat_natCast, List.getElem?_eq_getElem hk]

/-! ### the pen -/
/-- the pen: its cells, the index of the next one, what is left of a great one -/
def pen (c : Addr) (a g : Int) : HO := .lst [.ref c, .int a, .int g]
structure PenAt (H : Hp) (p c : Addr) (ns : List Int) (a g : Int) : Prop where
  pn : H p = some (.lst [.ref c, .int a, .int g])
  cs : H c = some (.lst (ns.map V.int))
  la : 0 ≤ a
  lb : a ≤ 100000
  ln : ns.length ≤ 63
theorem PenAt.ne {H : Hp} {p c : Addr} {ns : List Int} {a g : Int} (W : PenAt H p c ns a g) : c ≠ p := by
  refine ne_of W.cs W.pn fun z => ?_
  have z' := HO.lst.inj z
  cases ns with
  | nil => cases z'
  | cons n r => cases (List.cons.inj z').1
/-- all that was tracked stands as it was, but p -/
def Keep (p : Addr) (H H' : Hp) : Prop := ∀ b o, H b = some o → b ≠ p → H' b = some o
theorem Keep.refl (p : Addr) (H : Hp) : Keep p H H := fun _ _ h _ => h
theorem Keep.trans {p : Addr} {H H1 H2 : Hp} (a : Keep p H H1) (b : Keep p H1 H2) : Keep p H H2 := fun x o h n => b x o (a x o h n) n
theorem Keep.of {p : Addr} {H H' : Hp} (a : Same H H') : Keep p H H' := fun x o h _ => a x o h
theorem Keep.new {p q : Addr} {H H1 : Hp} {o : HO} (a : Keep p H H1) (n : H1 q = none) : Keep p H (upd H1 q o) := fun x u h e => hp_new (a x u h e) n
/-- the pen behind a draw -/
theorem PenAt.next {H H' : Hp} {p c : Addr} {ns : List Int} {a g a' g' : Int} (W : PenAt H p c ns a g) (h0 : a ≤ a') (h1 : a' ≤ 100000) (hp : H' p = some (pen c a' g')) (k : Keep p H H') : PenAt H' p c ns a' g' :=
  ⟨hp, k _ _ W.cs W.ne, Int.le_trans W.la h0, h1, W.ln⟩
theorem PenAt.keep {H H' : Hp} {p c : Addr} {ns : List Int} {a g : Int} (W : PenAt H p c ns a g) (k : Same H H') : PenAt H' p c ns a g := ⟨k _ _ W.pn, k _ _ W.cs, W.la, W.lb, W.ln⟩
def spDraw : Sp := fun vs H Q _ => ∃ p c ns a g m, vs = [.ref p, .int m] ∧ 0 < m ∧ m < 1000000 ∧ PenAt H p c ns a g ∧ ∀ d a' g' H', H' p = some (pen c a' g') → Keep p H H' → 0 ≤ d → d < m → a ≤ a' → a' ≤ a + 1 → Q (.int d) H'
/-- one of some things -/
def spPick (K : PySem.W.Frag) : Sp := fun vs H Q _ => ∃ p q c ns a g xs, vs = [.ref p, .ref q] ∧ PenAt H p c ns a g ∧ H q = some (.lst xs) ∧ q ≠ p ∧ 0 < xs.length ∧ xs.length < 1000 ∧
  ∀ x a' g' H', H' p = some (pen c a' g') → Keep p H H' → x ∈ xs → a ≤ a' → a' ≤ a + 1 → Q x H'
def spPen (K : PySem.W.Frag) : Sp := fun vs H Q _ => ∃ (a : Addr) (ns : List Int), vs = [.ref a] ∧ SqL K H a (ns.map V.int) ∧ ns.length ≤ 63 ∧ ∀ p c H', Same H H' → H p = none → H c = none → PenAt H' p c ns 0 0 → Q (.ref p) H'
end RR
namespace RR
open PySem PySem.Spec PyProof.Rows L2
section
variable {X : Cx}
/-- a % m, of which the bounds alone are told -/
def rModL : R2 := fun x y H Q => ∃ i j, x = .int i ∧ y = .int j ∧ 0 < j ∧ ∀ r, 0 ≤ r → r < j → Q (.int r) H
theorem op_modL : OpR X (binaryOp .Mod) rModL := by
  intro pins s σ H x y v u Q I rx ry h
  obtain ⟨i, j, rfl, rfl, hj, q⟩ := h
  exact op_modN pins s σ H _ _ v u Q I rx ry ⟨i, j, rfl, rfl, Int.ne_of_gt hj, q _ (fmod_lo hj) (fmod_hi hj)⟩
/-- a // m, a ** n, of which nothing is told -/
def rDivL : R2 := fun x y H Q => ∃ i j, x = .int i ∧ y = .int j ∧ (j ≠ 0 ∧ j.natAbs < 1073741824) ∧ ∀ r, Q (.int r) H
theorem op_divL : OpR X (binaryOp .FloorDiv) rDivL := by
  intro pins s σ H x y v u Q I rx ry h
  obtain ⟨i, j, rfl, rfl, hj, q⟩ := h
  exact op_fdivN pins s σ H _ _ v u Q I rx ry ⟨i, j, rfl, rfl, hj, q _⟩
def rPowL : R2 := fun x y H Q => ∃ i j, x = .int i ∧ y = .int j ∧ CPow i j ∧ ∀ r, Q (.int r) H
theorem op_powL : OpR X (binaryOp .Pow) rPowL := by
  intro pins s σ H x y v u Q I rx ry h
  obtain ⟨i, j, rfl, rfl, hj, q⟩ := h
  exact op_pow pins s σ H _ _ v u Q I rx ry ⟨i, j, rfl, rfl, hj, q _⟩
/-- c * a, c a small number that is written, or known to be small -/
def rMulL : R2 := fun x y H Q => ∃ i j, x = .int i ∧ y = .int j ∧ (-18446744073709551616 < i ∧ i < 18446744073709551616) ∧ Q (.int (i * j)) H
theorem op_mulL : OpR X (binaryOp .Mult) rMulL := by
  intro pins s σ H x y v u Q I rx ry h
  obtain ⟨i, j, rfl, rfl, hj, q⟩ := h
  exact op_mul pins s σ H _ _ v u Q I rx ry ⟨i, j, rfl, rfl, .inl hj, q⟩
end
end RR
set_option maxHeartbeats 4000000
namespace RR
open PySem PySem.Spec PyProof.Rows L2

/-! ### fractions -/
def gd (t b : Int) : Int := ((Nat.gcd t.natAbs b.natAbs : Nat) : Int)
/-- a fraction in lowest terms -/
def lo (t b : Int) : Int := t / gd t b
def lb (t b : Int) : Int := b / gd t b
theorem gd_pos {t b : Int} (h : 0 < b) : 0 < gd t b := by
  unfold gd
  have : 0 < Nat.gcd t.natAbs b.natAbs := Nat.gcd_pos_of_pos_right _ (by omega)
  omega
theorem gd_le {t b : Int} (h : 0 < b) : gd t b ≤ b := by
  unfold gd
  have : Nat.gcd t.natAbs b.natAbs ≤ b.natAbs := Nat.gcd_le_right _ (by omega)
  omega
theorem gd_dvd_l (t b : Int) : gd t b ∣ t := by
  unfold gd
  exact Int.ofNat_dvd_left.mpr (Nat.gcd_dvd_left _ _)
theorem gd_dvd_r (t b : Int) : gd t b ∣ b := by
  unfold gd
  exact Int.ofNat_dvd_left.mpr (Nat.gcd_dvd_right _ _)
theorem lb_pos {t b : Int} (h : 0 < b) : 0 < lb t b := Int.ediv_pos_of_pos_of_dvd h (Int.le_of_lt (gd_pos h)) (gd_dvd_r t b)
theorem div_small {t g : Int} {n : Nat} (h : t.natAbs < 2 ^ n) (g0 : 0 < g) (d : g ∣ t) : (t / g).natAbs < 2 ^ n := by
  refine Nat.lt_of_le_of_lt ?_ h
  obtain ⟨k, rfl⟩ := d
  rw [Int.mul_ediv_cancel_left k (Int.ne_of_gt g0), Int.natAbs_mul]
  exact Nat.le_mul_of_pos_left _ (by omega)
theorem lo_small {t b : Int} {n : Nat} (h : t.natAbs < 2 ^ n) (b0 : 0 < b) : (lo t b).natAbs < 2 ^ n := div_small h (gd_pos b0) (gd_dvd_l t b)
theorem lb_small {t b : Int} {n : Nat} (h : b.natAbs < 2 ^ n) (b0 : 0 < b) : (lb t b).natAbs < 2 ^ n := div_small h (gd_pos b0) (gd_dvd_r t b)
/-- in lowest terms -/
def Low (t b : Int) : Prop := 0 < b ∧ gd t b = 1
theorem low_lo {t b : Int} (h : Low t b) : lo t b = t := by unfold lo; rw [h.2]; exact Int.ediv_one t
theorem low_lb {t b : Int} (h : Low t b) : lb t b = b := by unfold lb; rw [h.2]; exact Int.ediv_one b
theorem low_one (t : Int) : Low t 1 := ⟨by decide, by unfold gd; rw [show (1 : Int).natAbs = 1 from rfl, Nat.gcd_one_right]; rfl⟩
theorem gd_neg (t b : Int) : gd (-t) b = gd t b := by unfold gd; rw [Int.natAbs_neg]
theorem low_neg {t b : Int} (h : Low t b) : Low (-t) b := ⟨h.1, by rw [gd_neg]; exact h.2⟩
theorem low_abs {t b : Int} (h : Low t b) : Low (if t < 0 then -t else t) b := by
  split
  · exact low_neg h
  · exact h
theorem low_of {t b : Int} (h : 0 < b) : Low (lo t b) (lb t b) := by
  refine ⟨lb_pos h, ?_⟩
  have g0 : 0 < Nat.gcd t.natAbs b.natAbs := Nat.gcd_pos_of_pos_right _ (by omega)
  have e1 : (lo t b).natAbs = t.natAbs / Nat.gcd t.natAbs b.natAbs := by
    obtain ⟨k, hk⟩ := gd_dvd_l t b
    unfold lo
    have gp := gd_pos (t := t) h
    conv => lhs; rw [hk]
    rw [show gd t b * k / gd (gd t b * k) b = gd t b * k / gd t b by rw [← hk]]
    rw [Int.mul_ediv_cancel_left k (Int.ne_of_gt gp)]
    have e : t.natAbs = Nat.gcd t.natAbs b.natAbs * k.natAbs := by
      conv => lhs; rw [hk, Int.natAbs_mul]
      unfold gd; rw [Int.natAbs_natCast]
    rw [e]
    rw [show Nat.gcd (Nat.gcd t.natAbs b.natAbs * k.natAbs) b.natAbs = Nat.gcd t.natAbs b.natAbs by rw [← e]]
    rw [Nat.mul_div_cancel_left _ g0]
  have e2 : (lb t b).natAbs = b.natAbs / Nat.gcd t.natAbs b.natAbs := by
    obtain ⟨k, hk⟩ := gd_dvd_r t b
    unfold lb
    have gp := gd_pos (t := t) h
    conv => lhs; rw [hk]
    rw [show gd t b * k / gd t (gd t b * k) = gd t b * k / gd t b by rw [← hk]]
    rw [Int.mul_ediv_cancel_left k (Int.ne_of_gt gp)]
    have e : b.natAbs = Nat.gcd t.natAbs b.natAbs * k.natAbs := by
      conv => lhs; rw [hk, Int.natAbs_mul]
      unfold gd; rw [Int.natAbs_natCast]
    rw [e]
    rw [show Nat.gcd t.natAbs (Nat.gcd t.natAbs b.natAbs * k.natAbs) = Nat.gcd t.natAbs b.natAbs by rw [← e]]
    rw [Nat.mul_div_cancel_left _ g0]
  unfold gd
  rw [e1, e2, Nat.gcd_div (Nat.gcd_dvd_left _ _) (Nat.gcd_dvd_right _ _), Nat.div_self g0]
  rfl
theorem gd_zero {b : Int} (h : 0 < b) : gd 0 b = b := by
  unfold gd
  rw [show (0 : Int).natAbs = 0 from rfl, Nat.gcd_zero_left]
  omega
theorem lo_zero {b : Int} : lo 0 b = 0 := by unfold lo; exact Int.zero_ediv _
theorem lb_zero {b : Int} (h : 0 < b) : lb 0 b = 1 := by unfold lb; rw [gd_zero h]; exact Int.ediv_self (Int.ne_of_gt h)

/-- a number that the programs reckon with -/
abbrev Sm (n : Nat) (i : Int) : Prop := i.natAbs < 2 ^ n
theorem sm_mono {m n : Nat} {i : Int} (h : Sm m i) (l : m ≤ n) : Sm n i := Nat.lt_of_lt_of_le h (Nat.pow_le_pow_right (by decide) l)
theorem sm_mul {m n : Nat} {i j : Int} (h : Sm m i) (k : Sm n j) : Sm (m + n) (i * j) := wide_lt h k
theorem sm_add {m : Nat} {i j : Int} (h : Sm m i) (k : Sm m j) : Sm (m + 1) (i + j) := by
  have e : 2 ^ (m + 1) = 2 ^ m + 2 ^ m := by rw [Nat.pow_succ]; omega
  have h' : i.natAbs < 2 ^ m := h
  have k' : j.natAbs < 2 ^ m := k
  show (i + j).natAbs < 2 ^ (m + 1)
  omega
theorem sm_neg {m : Nat} {i : Int} (h : Sm m i) : Sm m (-i) := by show (-i).natAbs < _; rw [Int.natAbs_neg]; exact h
theorem sm_sub {m : Nat} {i j : Int} (h : Sm m i) (k : Sm m j) : Sm (m + 1) (i - j) := by rw [Int.sub_eq_add_neg]; exact sm_add h (sm_neg k)
theorem sm_cmul {m n : Nat} {i j : Int} (h : Sm m i) (k : Sm n j) (hm : m + n ≤ 1000000) (m0 : 0 < m) (n0 : 0 < n) : CMulW i j := wide_mul h k m0 n0 hm

/-! ### a Ratio -/
def rfs (t b : Int) : List (Str × V) := [("top", .int t), ("bottom", .int b)]
def RatAt (C : Addr) (H : Hp) (x : Addr) (t b : Int) : Prop := ∃ dx, H x = some (.ins C dx (rfs t b))
theorem RatAt.same {C x : Addr} {H H' : Hp} {t b : Int} (h : RatAt C H x t b) (s : Same H H') : RatAt C H' x t b := h.elim fun dx e => ⟨dx, s _ _ e⟩
/-- a Ratio, or an int that stands for one -/
def NumV (C : Addr) (H : Hp) (v : V) (t b : Int) : Prop := (∃ a, v = .ref a ∧ RatAt C H a t b) ∨ (v = .int t ∧ b = 1)
theorem NumV.same {C : Addr} {H H' : Hp} {v : V} {t b : Int} (h : NumV C H v t b) (s : Same H H') : NumV C H' v t b := by
  rcases h with ⟨a, e, r⟩ | h
  · exact .inl ⟨a, e, r.same s⟩
  · exact .inr h
theorem NumV.intOr {C : Addr} {H : Hp} {v : V} {t b : Int} (h : NumV C H v t b) : IntOr C H v := by
  rcases h with ⟨a, rfl, dx, e⟩ | ⟨rfl, _⟩
  · exact .inr ⟨a, dx, _, rfl, e⟩
  · exact .inl ⟨t, rfl⟩
/-- what a new Ratio is -/
abbrev NewR (C : Addr) (H : Hp) (Q : VK) (t b : Int) : Prop := ∀ a H', Same H H' → RatAt C H' a t b → Q (.ref a) H'
def spInit (C : Addr) : Sp := fun vs H Q _ => ∃ x dx t b, vs = [.ref x, .int t, .int b] ∧ H x = some (.ins C dx []) ∧ 0 < b ∧ Sm 5000 t ∧ Sm 5000 b ∧ Q .non (upd (upd H x (.ins C dx [("top", .int (lo t b))])) x (.ins C dx (rfs (lo t b) (lb t b))))
def spIsInt : Sp := fun vs H Q _ => ∃ i, vs = [.int i] ∧ Q (.bl true) H
def spOf (C : Addr) : Sp := fun vs H Q _ => ∃ v t b, vs = [v] ∧ NumV C H v t b ∧ Sm 5000 t ∧ NewR C H Q t b
def spEndless (C : Addr) : Sp := fun vs H Q _ => ∃ x t b, vs = [.ref x] ∧ RatAt C H x t b ∧ Q (.bl (decide (b = 0))) H
/-- x op y: F and G reckon with both fractions -/
def spBin (C : Addr) (F G : Int → Int → Int → Int → Int) : Sp := fun vs H Q _ => ∃ x y t b u d, vs = [.ref x, y] ∧ RatAt C H x t b ∧ NumV C H y u d ∧ 0 < b ∧ 0 < d ∧ Sm 1000 t ∧ Sm 1000 b ∧ Sm 1000 u ∧ Sm 1000 d ∧ NewR C H Q (lo (F t b u d) (G t b u d)) (lb (F t b u d) (G t b u d))
def fAdd (t b u d : Int) : Int := t * d + u * b
def fSub (t b u d : Int) : Int := t * d - u * b
def fRsub (t b u d : Int) : Int := u * b - t * d
def fMul (t b u d : Int) : Int := t * u
def gAll (t b u d : Int) : Int := b * d
def gRev (t b u d : Int) : Int := d * b
def spNeg (C : Addr) : Sp := fun vs H Q _ => ∃ x t b, vs = [.ref x] ∧ RatAt C H x t b ∧ 0 < b ∧ Sm 1000 t ∧ Sm 1000 b ∧ NewR C H Q (lo (-t) b) (lb (-t) b)
def spLt (C : Addr) : Sp := fun vs H Q _ => ∃ x y t b u d, vs = [.ref x, y] ∧ RatAt C H x t b ∧ NumV C H y u d ∧ Sm 1000 t ∧ Sm 1000 b ∧ Sm 1000 u ∧ Sm 1000 d ∧ ∀ H', Same H H' → Q (.bl (decide (t * d < u * b))) H'
def spAbs (C : Addr) : Sp := fun vs H Q _ => ∃ x t b, vs = [.ref x] ∧ RatAt C H x t b ∧ Low t b ∧ Sm 1000 t ∧ Sm 1000 b ∧ NewR C H Q (if t < 0 then -t else t) b
/-- Ratio(t, b) -/
theorem mkR {C : Addr} {H : Hp} {Q : VK} {t b : Int} {E : XK} (b0 : 0 < b) (st : Sm 5000 t) (sb : Sm 5000 b) (k : NewR C H Q (lo t b) (lb t b)) :
    ∀ x dx, H x = none → H dx = none → dx ≠ x → spInit C [.ref x, .int t, .int b] (upd (upd H dx (.own x)) x (.ins C dx [])) (fun v H2 => v = .non ∧ Q (.ref x) H2) E := by
  intro x dx nx nd ne
  refine ⟨x, dx, t, b, rfl, upd_same, b0, st, sb, rfl, k x _ (fun a o e => ?_) ⟨dx, upd_same⟩⟩
  have h1 : a ≠ x := ne_of_none e nx
  rw [upd_ne h1, upd_ne h1, upd_ne h1, upd_ne (ne_of_none e nd)]
  exact e
end RR
namespace RR
open PySem PySem.Spec PyProof.Rows L2
theorem put_top (v : V) : putF "top" v [] = [(("top" : Str), v)] := rfl
theorem put_bottom (v w : V) : putF "bottom" w [(("top" : Str), v)] = [(("top" : Str), v), ("bottom", w)] := by
  show (if ("top" : Str) = "bottom" then [(("bottom" : Str), w)] else (("top" : Str), v) :: putF "bottom" w []) = _
  rw [if_neg (by decide +kernel : ¬ ("top" : Str) = "bottom")]
  rfl
theorem rfs_top (t b : Int) : (rfs t b).lookup ("top" : Str) = some (.int t) := rfl
theorem rfs_bottom (t b : Int) : (rfs t b).lookup ("bottom" : Str) = some (.int b) := by
  show (match ("bottom" : Str) == "top" with | true => some (V.int t) | false => ([(("bottom" : Str), V.int b)]).lookup ("bottom" : Str)) = _
  rw [show (("bottom" : Str) == "top") = false from by decide +kernel]
  rfl
end RR
namespace RR
open PySem PySem.Spec PyProof.Rows L2
/-- what the text says of the class Ratio -/
structure RC (K : PySem.W.Frag) (C : Addr) : Prop where
  cls : Cls K C
  nT : NoAttr K C "top"
  nB : NoAttr K C "bottom"
  ca : PySem.W.findIn K (.ref C) "__class__" = some (some (.builtin "object.__class__"))
  cn : PySem.W.specialIn K (.builtin "object.__class__") "__get__" = some (some (.builtin "getset_descriptor.__get__"))
  ct : PySem.W.takesIn K (.builtin "object.__class__") = some true
  cm : PySem.W.mroIn K C (.type "object") = some true
  k0 : PySem.W.kitOne K (.type "int") (.ref C) = some false
theorem RC.ty {K : PySem.W.Frag} {C a dx : Addr} {H : Hp} {fs : List (Str × V)} (T : RC K C) (e : H a = some (.ins C dx fs)) : TyX K H (.ref a) (.ref C) := .base (.ins e T.cls T.ca T.cn T.ct T.cm)
theorem kit_self {K : PySem.W.Frag} {C : Addr} : PySem.W.kitOne K (.ref C) (.ref C) = some true := if_pos (by simp)
theorem dec_int (a b : Int) : decide (V.int a = V.int b) = decide (a = b) := by
  by_cases h : a = b
  · subst h; simp
  · rw [decide_eq_false h, decide_eq_false fun z => h (V.int.inj z)]
theorem no_if {c A B : Prop} [Decidable c] (h : ¬ c) (b : B) : if c then A else B := by rw [if_neg h]; exact b
theorem dec_no {p : Prop} [Decidable p] (h : ¬ p) : ¬ decide p = true := fun z => h (of_decide_eq_true z)
end RR
namespace RR
theorem sm_0 {n : Nat} : Sm n 0 := Nat.two_pow_pos n
theorem sm_1 {n : Nat} (h : 0 < n) : Sm n 1 := Nat.lt_of_lt_of_le (show 1 < 2 ^ 1 by decide) (Nat.pow_le_pow_right (by decide) h)
end RR
set_option maxHeartbeats 4000000
namespace RR
open PySem PySem.Spec PyProof.Rows L2

theorem Same.at {H H' : Hp} {b : Addr} {o : HO} (s : Same H H') (h : H b = some o) : H' b = some o := s b o h
theorem Same.new {H : Hp} {p : Addr} {o : HO} (n : H p = none) : Same H (upd H p o) := fun _ _ e => hp_new e n
theorem same_new {H H1 : Hp} {p : Addr} {o : HO} (s : Same H H1) (n : H1 p = none) : Same H (upd H1 p o) := s.trans (Same.new n)
/-- an object that H does not know may change -/
theorem same_mut {H H1 : Hp} {p : Addr} {o : HO} (s : Same H H1) (n : H p = none) : Same H (upd H1 p o) := fun b u e => by
  rw [upd_ne (ne_of_none e n)]
  exact s b u e
theorem same_free {H H1 : Hp} {p : Addr} (s : Same H H1) (n : H1 p = none) : H p = none := s.free n

/-- a pair -/
abbrev Pr (H : Hp) (p : Addr) (t b : Int) : Prop := H p = some (.tup [.int t, .int b])
/-- a value is the ratio of a pair -/
def Fits (C : Addr) (H : Hp) (x y : V) : Prop := ∃ a p t b, x = .ref a ∧ y = .ref p ∧ RatAt C H a t b ∧ Pr H p t b ∧ Sm 1900 t ∧ Sm 1900 b
theorem Fits.same {C : Addr} {H H' : Hp} {x y : V} (h : Fits C H x y) (s : Same H H') : Fits C H' x y := by
  obtain ⟨a, p, t, b, e1, e2, r, q, st, sb⟩ := h
  exact ⟨a, p, t, b, e1, e2, r.same s, s _ _ q, st, sb⟩
inductive AreL (C : Addr) (H : Hp) : List V → List V → Prop
  | nil : AreL C H [] []
  | cons {x y : V} {xs ys : List V} : Fits C H x y → AreL C H xs ys → AreL C H (x :: xs) (y :: ys)
theorem AreL.len {C : Addr} {H : Hp} : ∀ {xs ys : List V}, AreL C H xs ys → xs.length = ys.length
  | _, _, .nil => rfl
  | _, _, .cons _ h => congrArg Nat.succ h.len
theorem AreL.same {C : Addr} {H H' : Hp} (s : Same H H') : ∀ {xs ys : List V}, AreL C H xs ys → AreL C H' xs ys
  | _, _, .nil => .nil
  | _, _, .cons f h => .cons (f.same s) (h.same s)
theorem AreL.get {C : Addr} {H : Hp} : ∀ {xs ys : List V}, AreL C H xs ys → ∀ i, i < ys.length → ∃ x y, xs[i]? = some x ∧ ys[i]? = some y ∧ Fits C H x y
  | _, _, .nil, i, h => absurd h (Nat.not_lt_zero i)
  | _, _, .cons (x := x) (y := y) f h, 0, _ => ⟨x, y, rfl, rfl, f⟩
  | _, _, .cons f h, i + 1, l => h.get i (Nat.lt_of_succ_lt_succ l)

def spLow : Sp := fun vs H Q _ => ∃ u l, vs = [.int u, .int l] ∧ 0 < l ∧ Sm 5000 l ∧ Sm 5000 u ∧ ∀ p H', Same H H' → H p = none → Pr H' p (lo u l) (lb u l) → Q (.ref p) H'
def spIs (C : Addr) : Sp := fun vs H Q _ => ∃ x y, vs = [x, y] ∧ Fits C H x y ∧ ∀ H', Same H H' → Q (.bl true) H'
def spMade (C : Addr) : Sp := fun vs H Q _ => ∃ p t b, vs = [.ref p] ∧ Pr H p t b ∧ Low t b ∧ Sm 5000 t ∧ Sm 5000 b ∧ NewR C H Q t b
def spFrac : Sp := fun vs H Q _ => ∃ p c ns a g, vs = [.ref p] ∧ PenAt H p c ns a g ∧ a ≤ 99000 ∧ ∀ q t b a' g' H', H' p = some (pen c a' g') → Keep p H H' → H q = none → Pr H' q t b → Low t b → Sm 100 t → Sm 100 b → a ≤ a' → a' ≤ a + 5 → Q (.ref q) H'
/-- the sum, the difference and the product as pairs -/
def spResults : Sp := fun vs H Q _ => ∃ p1 p2 t b u d, vs = [.ref p1, .ref p2] ∧ Pr H p1 t b ∧ Pr H p2 u d ∧ 0 < b ∧ 0 < d ∧ Sm 1000 t ∧ Sm 1000 b ∧ Sm 1000 u ∧ Sm 1000 d ∧
  ∀ q q1 q2 q3 H', Same H H' → H' q = some (.lst [.ref q1, .ref q2, .ref q3]) → Pr H' q1 (lo (fAdd t b u d) (gAll t b u d)) (lb (fAdd t b u d) (gAll t b u d)) →
    Pr H' q2 (lo (fSub t b u d) (gAll t b u d)) (lb (fSub t b u d) (gAll t b u d)) → Pr H' q3 (lo (fMul t b u d) (gAll t b u d)) (lb (fMul t b u d) (gAll t b u d)) → Q (.ref q) H'
structure AreW (C : Addr) (vs : List V) (H : Hp) (Q : VK) : Prop where
  ex : ∃ p q xs ys, vs = [.ref p, .ref q] ∧ H p = some (.lst xs) ∧ H q = some (.lst ys) ∧ ys.length < 1000 ∧ AreL C H xs ys ∧ ∀ H', Same H H' → Q (.bl true) H'
def spAre (C : Addr) : Sp := fun vs H Q _ => AreW C vs H Q
/-- what += , -= and *= make -/
def spPlace (C : Addr) : Sp := fun vs H Q _ => ∃ x y t b u d, vs = [x, y] ∧ NumV C H x t b ∧ NumV C H y u d ∧ ((∃ a, x = .ref a) ∨ ∃ a, y = .ref a) ∧ 0 < b ∧ 0 < d ∧ Sm 1000 t ∧ Sm 1000 b ∧ Sm 1000 u ∧ Sm 1000 d ∧
  ∀ q q1 q2 q3 H', Same H H' → H' q = some (.lst [.ref q1, .ref q2, .ref q3]) → RatAt C H' q1 (lo (fAdd t b u d) (gAll t b u d)) (lb (fAdd t b u d) (gAll t b u d)) →
    RatAt C H' q2 (lo (fSub t b u d) (gAll t b u d)) (lb (fSub t b u d) (gAll t b u d)) → RatAt C H' q3 (lo (fMul t b u d) (gAll t b u d)) (lb (fMul t b u d) (gAll t b u d)) → Q (.ref q) H'
def spPair : Sp := fun vs H Q _ => ∃ p1 p2 t b u d, vs = [.ref p1, .ref p2] ∧ Pr H p1 t b ∧ Pr H p2 u d ∧ Low t b ∧ Low u d ∧ Sm 100 t ∧ Sm 100 b ∧ Sm 100 u ∧ Sm 100 d ∧ ∀ H', Same H H' → Q (.bl true) H'
def spAlone : Sp := fun vs H Q _ => ∃ p t b, vs = [.ref p] ∧ Pr H p t b ∧ Low t b ∧ Sm 100 t ∧ Sm 100 b ∧ ∀ H', Same H H' → Q (.bl true) H'
def spLaw (K : PySem.W.Frag) : Sp := fun vs H Q _ => ∃ (a : Addr) (ns : List Int), vs = [.ref a] ∧ SqL K H a (ns.map V.int) ∧ ns.length ≤ 63 ∧ ∀ H', Q (.bl true) H'

/-! ### reckoning with either order -/
theorem add_comm4 (t b u d : Int) : fAdd t b u d = fAdd u d t b := by unfold fAdd; omega
theorem gall_comm (t b u d : Int) : gAll t b u d = gAll u d t b := by unfold gAll; rw [Int.mul_comm]
theorem mul_comm4 (t b u d : Int) : fMul t b u d = fMul u d t b := by unfold fMul; rw [Int.mul_comm]
theorem rsub_eq (t b u d : Int) : fRsub t b u d = fSub u d t b := rfl
theorem grev_eq (t b u d : Int) : gRev t b u d = gAll u d t b := rfl

/-- x op y of a Ratio and a number, on either side -/
theorem opL {C : Addr} {H : Hp} {Q : VK} {E : XK} {F G : Int → Int → Int → Int → Int} {a : Addr} {y : V} {t b u d : Int} (r : RatAt C H a t b) (n : NumV C H y u d) (b0 : 0 < b) (d0 : 0 < d) (st : Sm 1000 t) (sb : Sm 1000 b) (su : Sm 1000 u) (sd : Sm 1000 d)
    (k : NewR C H Q (lo (F t b u d) (G t b u d)) (lb (F t b u d) (G t b u d))) : rOpL C (spBin C F G) E (.ref a) y H Q := by
  obtain ⟨dx, e⟩ := r
  exact ⟨⟨a, dx, _, rfl, e⟩, n.intOr, a, y, t, b, u, d, rfl, ⟨dx, e⟩, n, b0, d0, st, sb, su, sd, k⟩
theorem opR {C : Addr} {H : Hp} {Q : VK} {E : XK} {F G : Int → Int → Int → Int → Int} {a : Addr} {n t b : Int} (r : RatAt C H a t b) (b0 : 0 < b) (st : Sm 1000 t) (sb : Sm 1000 b) (sn : Sm 1000 n)
    (k : NewR C H Q (lo (F t b n 1) (G t b n 1)) (lb (F t b n 1) (G t b n 1))) : rOpR C (spBin C F G) E (.int n) (.ref a) H Q := by
  obtain ⟨dx, e⟩ := r
  exact ⟨⟨n, rfl⟩, ⟨a, dx, _, rfl, e⟩, a, .int n, t, b, n, 1, rfl, ⟨dx, e⟩, .inr ⟨rfl, rfl⟩, b0, by decide, st, sb, sn, sm_1 (by decide), k⟩
theorem opI {C : Addr} {H : Hp} {Q : VK} {E : XK} {F G F' G' : Int → Int → Int → Int → Int} (hF : ∀ t b u d, F' t b u d = F u d t b) (hG : ∀ t b u d, G' t b u d = G u d t b) {x y : V} {t b u d : Int} (r : NumV C H x t b) (n : NumV C H y u d)
    (or : (∃ a, x = .ref a) ∨ ∃ a, y = .ref a) (b0 : 0 < b) (d0 : 0 < d) (st : Sm 1000 t) (sb : Sm 1000 b) (su : Sm 1000 u) (sd : Sm 1000 d) (k : NewR C H Q (lo (F t b u d) (G t b u d)) (lb (F t b u d) (G t b u d))) :
    rOpI C (spBin C F G) (spBin C F' G') E x y H Q := by
  rcases r with ⟨a, rfl, r⟩ | ⟨rfl, rfl⟩
  · exact .inl (opL r n b0 d0 st sb su sd k)
  · rcases n with ⟨a, rfl, r⟩ | ⟨rfl, rfl⟩
    · refine .inr (opR r d0 su sd st ?_)
      rw [hF, hG]
      exact k
    · rcases or with ⟨a, z⟩ | ⟨a, z⟩ <;> cases z
end RR
namespace RR
open PySem PySem.Spec PyProof.Rows L2
theorem cut63 {ns : List Int} (h : ns.length ≤ 63) : cutV (ns.map V.int) none (some 63) = ns.map V.int := by
  unfold cutV
  have e1 : HT.sIx (ns.map V.int).length 0 none = 0 := rfl
  have e2 : HT.sIx (ns.map V.int).length (ns.map V.int).length (some 63) = ns.length := by
    have z := HT.sIx_nat (ns.map V.int).length (ns.map V.int).length 63
    rw [List.length_map] at z ⊢
    rw [show ((63 : Nat) : Int) = 63 from rfl] at z
    rw [z]
    omega
  rw [e1, e2, List.drop_zero, Nat.sub_zero]
  exact List.take_of_length_le (by rw [List.length_map]; exact Nat.le_refl _)
theorem gcd_step {f s : Int} (f0 : 0 ≤ f) (s0 : 0 < s) : Nat.gcd s.natAbs (f % s).natAbs = Nat.gcd f.natAbs s.natAbs := by
  obtain ⟨a, rfl⟩ := Int.eq_ofNat_of_zero_le f0
  obtain ⟨b, rfl⟩ := Int.eq_ofNat_of_zero_le (Int.le_of_lt s0)
  rw [← Int.natCast_emod, Int.natAbs_natCast, Int.natAbs_natCast, Int.natAbs_natCast, Nat.gcd_comm a b, Nat.gcd_rec b a, Nat.gcd_comm]
end RR
namespace RR
open PySem PySem.Spec PyProof.Rows L2
/-- a list of ints of which P holds -/
def AllI (P : Int → Prop) (xs : List V) : Prop := ∀ x ∈ xs, ∃ n, x = .int n ∧ P n
theorem allI_nil {P : Int → Prop} : AllI P [] := fun _ h => by cases h
theorem allI_cons {P : Int → Prop} {n : Int} {xs : List V} (h : P n) (t : AllI P xs) : AllI P (.int n :: xs) := fun x hx => by
  rcases List.mem_cons.mp hx with rfl | hx
  · exact ⟨n, rfl, h⟩
  · exact t x hx
theorem sm_low {d m : Int} {n : Nat} (d0 : 0 ≤ d) (d1 : d < m) (h : Sm n m) : Sm n d := by
  have h' : m.natAbs < 2 ^ n := h
  show d.natAbs < 2 ^ n
  omega
theorem sign_cases (k : Bool) : (1 - 2 * (if k = true then 1 else 0) : Int) = 1 ∨ (1 - 2 * (if k = true then 1 else 0) : Int) = -1 := by cases k <;> simp
theorem sm_sign {s n : Int} {m : Nat} (h : s = 1 ∨ s = -1) (k : Sm m n) : Sm m (s * n) := by
  rcases h with rfl | rfl
  · rw [Int.one_mul]; exact k
  · rw [Int.neg_mul, Int.one_mul]; exact sm_neg k
end RR
namespace RR
open PySem PySem.Spec PyProof.Rows L2
/-- three pairs; three ratios -/
def ResP (H : Hp) (q : Addr) (t b u d : Int) : Prop := ∃ q1 q2 q3, H q = some (.lst [.ref q1, .ref q2, .ref q3]) ∧ Pr H q1 (lo (fAdd t b u d) (gAll t b u d)) (lb (fAdd t b u d) (gAll t b u d)) ∧
  Pr H q2 (lo (fSub t b u d) (gAll t b u d)) (lb (fSub t b u d) (gAll t b u d)) ∧ Pr H q3 (lo (fMul t b u d) (gAll t b u d)) (lb (fMul t b u d) (gAll t b u d))
def ResR (C : Addr) (H : Hp) (q : Addr) (t b u d : Int) : Prop := ∃ q1 q2 q3, H q = some (.lst [.ref q1, .ref q2, .ref q3]) ∧ RatAt C H q1 (lo (fAdd t b u d) (gAll t b u d)) (lb (fAdd t b u d) (gAll t b u d)) ∧
  RatAt C H q2 (lo (fSub t b u d) (gAll t b u d)) (lb (fSub t b u d) (gAll t b u d)) ∧ RatAt C H q3 (lo (fMul t b u d) (gAll t b u d)) (lb (fMul t b u d) (gAll t b u d))
theorem ResP.same {H H' : Hp} {q : Addr} {t b u d : Int} (h : ResP H q t b u d) (s : Same H H') : ResP H' q t b u d := by
  obtain ⟨q1, q2, q3, e, a, b, c⟩ := h
  exact ⟨q1, q2, q3, s _ _ e, s _ _ a, s _ _ b, s _ _ c⟩
theorem resR_of {C : Addr} {G4 G5 G6 : Hp} {c1 c2 c3 L : Addr} {t b u d : Int} (v1 : RatAt C G4 c1 (lo (fAdd t b u d) (gAll t b u d)) (lb (fAdd t b u d) (gAll t b u d))) (s5 : Same G4 G5)
    (v2 : RatAt C G5 c2 (lo (fSub t b u d) (gAll t b u d)) (lb (fSub t b u d) (gAll t b u d))) (s6 : Same G5 G6) (v3 : RatAt C G6 c3 (lo (fMul t b u d) (gAll t b u d)) (lb (fMul t b u d) (gAll t b u d))) (n : G6 L = none) :
    ResR C (upd G6 L (.lst [.ref c1, .ref c2, .ref c3])) L t b u d :=
  ⟨c1, c2, c3, upd_same, v1.same (s5.trans (s6.trans (Same.new n))), v2.same (s6.trans (Same.new n)), v3.same (Same.new n)⟩
theorem szs {t b u d : Int} (b0 : 0 < b) (d0 : 0 < d) (st : Sm 100 t) (sb : Sm 100 b) (su : Sm 100 u) (sd : Sm 100 d) : (Sm 1900 (lo (fAdd t b u d) (gAll t b u d)) ∧ Sm 1900 (lb (fAdd t b u d) (gAll t b u d))) ∧
    (Sm 1900 (lo (fSub t b u d) (gAll t b u d)) ∧ Sm 1900 (lb (fSub t b u d) (gAll t b u d))) ∧ (Sm 1900 (lo (fMul t b u d) (gAll t b u d)) ∧ Sm 1900 (lb (fMul t b u d) (gAll t b u d))) := by
  have g : Sm 1900 (gAll t b u d) := sm_mono (sm_mul sb sd) (by decide)
  have g0 : 0 < gAll t b u d := Int.mul_pos b0 d0
  have f1 : Sm 1900 (fAdd t b u d) := sm_mono (sm_add (sm_mul st sd) (sm_mul su sb)) (by decide)
  have f2 : Sm 1900 (fSub t b u d) := sm_mono (sm_sub (sm_mul st sd) (sm_mul su sb)) (by decide)
  have f3 : Sm 1900 (fMul t b u d) := sm_mono (sm_mul st su) (by decide)
  exact ⟨⟨lo_small f1 g0, lb_small g g0⟩, ⟨lo_small f2 g0, lb_small g g0⟩, lo_small f3 g0, lb_small g g0⟩
theorem are3 {C : Addr} {H : Hp} {Q : VK} {p q : Addr} {t b u d : Int} (r : ResR C H p t b u d) (e : ResP H q t b u d) (b0 : 0 < b) (d0 : 0 < d) (st : Sm 100 t) (sb : Sm 100 b) (su : Sm 100 u) (sd : Sm 100 d)
    (k : ∀ H', Same H H' → Q (.bl true) H') : AreW C [.ref p, .ref q] H Q := by
  obtain ⟨p1, p2, p3, hp, r1, r2, r3⟩ := r
  obtain ⟨q1, q2, q3, hq, e1, e2, e3⟩ := e
  obtain ⟨⟨a1, a2⟩, ⟨b1, b2⟩, c1, c2⟩ := szs b0 d0 st sb su sd
  exact ⟨p, q, _, _, rfl, hp, hq, by show 3 < 1000; decide, .cons ⟨p1, q1, _, _, rfl, rfl, r1, e1, a1, a2⟩ (.cons ⟨p2, q2, _, _, rfl, rfl, r2, e2, b1, b2⟩ (.cons ⟨p3, q3, _, _, rfl, rfl, r3, e3, c1, c2⟩ .nil)), k⟩
theorem opR2 {C : Addr} {H : Hp} {Q : VK} {E : XK} {F G F' G' : Int → Int → Int → Int → Int} (hF : ∀ t b u d, F' t b u d = F u d t b) (hG : ∀ t b u d, G' t b u d = G u d t b) {a : Addr} {n t b : Int} (r : RatAt C H a t b) (b0 : 0 < b)
    (st : Sm 1000 t) (sb : Sm 1000 b) (sn : Sm 1000 n) (k : NewR C H Q (lo (F n 1 t b) (G n 1 t b)) (lb (F n 1 t b) (G n 1 t b))) : rOpR C (spBin C F' G') E (.int n) (.ref a) H Q := by
  refine opR r b0 st sb sn ?_
  rw [hF, hG]
  exact k
end RR
namespace RR
open PySem PySem.Spec PyProof.Rows L2
theorem negL {C : Addr} {H : Hp} {Q : VK} {E : XK} {a : Addr} {t b : Int} (r : RatAt C H a t b) (l : Low t b) (st : Sm 1000 t) (sb : Sm 1000 b) (k : NewR C H Q (-t) b) : rNegO C (spNeg C) E (.ref a) H Q := by
  obtain ⟨dx, e⟩ := r
  refine ⟨⟨a, dx, _, rfl, e⟩, a, t, b, rfl, ⟨dx, e⟩, l.1, st, sb, ?_⟩
  rw [low_lo (low_neg l), low_lb (low_neg l)]
  exact k
theorem absL {C : Addr} {H : Hp} {Q : VK} {E : XK} {a : Addr} {t b : Int} (r : RatAt C H a t b) (l : Low t b) (st : Sm 1000 t) (sb : Sm 1000 b) (k : NewR C H Q (if t < 0 then -t else t) b) : rAbsO C (spAbs C) E [.ref a] H Q := by
  obtain ⟨dx, e⟩ := r
  exact ⟨⟨a, dx, _, rfl, e⟩, a, t, b, rfl, ⟨dx, e⟩, l, st, sb, k⟩
theorem abs_neg_eq (t : Int) : (if -t < 0 then - -t else -t) = (if t < 0 then -t else t) := by split <;> split <;> omega
theorem sub_self0 (t b : Int) : lo (fSub t b t b) (gAll t b t b) = 0 := by rw [show fSub t b t b = 0 by unfold fSub; omega]; exact lo_zero
theorem sub_self1 {t b : Int} (h : 0 < b) : lb (fSub t b t b) (gAll t b t b) = 1 := by rw [show fSub t b t b = 0 by unfold fSub; omega]; exact lb_zero (Int.mul_pos h h)
theorem add_neg0 (t b : Int) : lo (fAdd t b (-t) b) (gAll t b (-t) b) = 0 := by rw [show fAdd t b (-t) b = 0 by unfold fAdd; rw [Int.neg_mul]; omega]; exact lo_zero
theorem add_neg1 {t b : Int} (h : 0 < b) : lb (fAdd t b (-t) b) (gAll t b (-t) b) = 1 := by rw [show fAdd t b (-t) b = 0 by unfold fAdd; rw [Int.neg_mul]; omega]; exact lb_zero (Int.mul_pos h h)
theorem mul_zero0 (t b : Int) : lo (fMul t b 0 1) (gAll t b 0 1) = 0 := by rw [show fMul t b 0 1 = 0 by unfold fMul; omega]; exact lo_zero
theorem mul_zero1 {t b : Int} (h : 0 < b) : lb (fMul t b 0 1) (gAll t b 0 1) = 1 := by rw [show fMul t b 0 1 = 0 by unfold fMul; omega]; exact lb_zero (by unfold gAll; omega)
theorem mul_one0 {t b : Int} (h : Low t b) : lo (fMul t b 1 1) (gAll t b 1 1) = t := by rw [show fMul t b 1 1 = t by unfold fMul; omega, show gAll t b 1 1 = b by unfold gAll; omega]; exact low_lo h
theorem mul_one1 {t b : Int} (h : Low t b) : lb (fMul t b 1 1) (gAll t b 1 1) = b := by rw [show fMul t b 1 1 = t by unfold fMul; omega, show gAll t b 1 1 = b by unfold gAll; omega]; exact low_lb h
end RR
set_option maxHeartbeats 4000000
namespace RR
open PySem PySem.Spec PyProof.Rows L2 LamX
/-! ### the law's end where defs make lambdas: their tables are tracked from the start -/
/-- the script, and the tables in ts -/
def hpT (ts : List Addr) (a : Addr) (vs : List Value) (ns : List Int) (own : Bool) : Hp := fun b => if b ∈ ts then some (.tbl #[]) else hpOf a vs ns own b
section
variable {ts : List Addr} {a b : Addr} {vs : List Value} {ns : List Int} {o : Bool}
theorem hpT_in (h : b ∈ ts) : hpT ts a vs ns o b = some (.tbl #[]) := if_pos h
theorem hpT_out (h : b ∉ ts) : hpT ts a vs ns o b = hpOf a vs ns o b := if_neg h
end
theorem lawGT {P : Program} {w : World} {K : PySem.W.Frag} {mg mb : Str → Option Value} {k : Nat} {fa a : Addr} {g : Sp} {s : Shared} {vs : List Value} {ns : List Int} {cs : List (Addr × Addr)}
    (kin : K.In s.heap) (hns : s.heap.Ns mainGlobals mg) (hb : s.heap.Ns builtinsNs mb) (hbb : ∀ x : Str, x ≠ "__name__" → mb x = bootBuiltins x) (lim : s.heap.NoLimit) (hgen : s.gens = #[])
    (tab : ∀ p ∈ cs, PySem.W.CodeHd s.heap p.1 p.2 ∧ s.heap.get? p.2 = some { cls := .none, data := .fields #[] }) (off : ∀ p ∈ cs, K.lookup p.2 = none)
    (bmod : ∃ (bm : Addr) (ob : Obj), mg "__builtins__" = some (.ref bm) ∧ bm ≠ builtinsNs ∧ s.heap.get? bm = some ob ∧ ob.cls = .type "module" ∧ ob.dict = some builtinsNs ∧ ob.data = .plain)
    (ha : s.heap.get? a = some { cls := .type "list", data := .seq vs.toArray }) (hi : IntsAre vs ns) (hl : ns.length ≤ sizeLine) (hr : Room k callerA)
    (F : ∀ base : Heap, K.In base → base.Ns mainGlobals mg → (∀ p ∈ cs, TabB base mg p.1 p.2) → FnG P w K mg base CX0 k fa g)
    (sp : ∀ H : Hp, (∀ p ∈ cs, H p.2 = some (.tbl #[])) → SqL K H a (ns.map V.int) → g [.ref a] H (fun v _ => v = .bl true) E0) :
    codeAny (model P w) callerA (.call (.ref fa) ⟨[.ref a], []⟩) (fun r s' => r = .ok (.ret (.bool true)) ∧ OldK s.heap s'.heap ∧ s'.os = s.os ∧ AllBare s'.gens) s := by
  have rv := vals_ints hi
  have laid : ∀ b, b ∈ cs.map Prod.snd → s.heap.get? b = some { cls := .none, data := .fields #[] } ∧ K.lookup b = none := by
    intro b z
    obtain ⟨p, hp, rfl⟩ := List.mem_map.mp z
    exact ⟨(tab p hp).2, off p hp⟩
  have an : a ∉ cs.map Prod.snd := by
    intro z
    have y := (laid a z).1
    rw [ha] at y
    cases y
  have main : ∀ o : Bool, (o = true → ∃ ob, K.lookup a = some ob) → (o = false → K.lookup a = none) →
      codeAny (model P w) callerA (.call (.ref fa) ⟨[.ref a], []⟩) (fun r s' => r = .ok (.ret (.bool true)) ∧ OldK s.heap s'.heap ∧ s'.os = s.os ∧ AllBare s'.gens) s := by
    intro o h1 h0
    have hok : HOk P w (hpT (cs.map Prod.snd) a vs ns o) s.heap := by
      intro b u z
      by_cases hm : b ∈ cs.map Prod.snd
      · rw [hpT_in hm] at z
        cases z
        exact (laid b hm).1
      · rw [hpT_out hm] at z
        obtain ⟨rfl, -, rfl⟩ := hp_only z
        exact ⟨ha, by rw [List.length_map]; exact hl, vs, _, rv, ha⟩
    have seq : SqL K (hpT (cs.map Prod.snd) a vs ns o) a (ns.map V.int) := by
      cases o with
      | false => exact .inl (.inr ⟨_, (hpT_out an).trans (hp_at a vs ns)⟩)
      | true =>
        obtain ⟨ob, e⟩ := h1 rfl
        have e2 := kin a ob e
        rw [ha] at e2
        cases e2
        exact .inr ⟨_, vs.toArray, _, e, rfl, rfl, rfl, by rw [List.size_toArray, hi.length]; exact hl, by simpa using rv⟩
    have keepH : ∀ {b : Addr} {ob : Obj}, s.heap.get? b = some ob → hpT (cs.map Prod.snd) a vs ns o b = none → (hidT s.heap (hpT (cs.map Prod.snd) a vs ns o)).get? b = some ob := fun e n => hidT_get e n
    have free : ∀ {b : Addr} {ob : Obj}, s.heap.get? b = some ob → (∀ l n, ob.data ≠ .seq l n) → ob.data ≠ .fields #[] → hpT (cs.map Prod.snd) a vs ns o b = none := by
      intro b ob e n1 n2
      by_cases hm : b ∈ cs.map Prod.snd
      · have y := (laid b hm).1
        rw [e] at y
        cases y
        exact absurd rfl n2
      · rw [hpT_out hm]
        refine hp_off fun z => ?_
        rw [z, ha] at e
        cases e
        exact n1 _ _ rfl
    have ofDict : ∀ {b : Addr} {ob : Obj} {es : Array DictEntry} {ep : Nat}, s.heap.get? b = some ob → ob.data = .dict es ep → hpT (cs.map Prod.snd) a vs ns o b = none := by
      intro b ob es ep e d
      exact free e (fun _ _ z => by rw [d] at z; cases z) fun z => by rw [d] at z; cases z
    have nsH : ∀ {b : Addr} {m : Str → Option Value}, s.heap.Ns b m → (hidT s.heap (hpT (cs.map Prod.snd) a vs ns o)).Ns b m := by
      rintro b m ⟨ob, es, ep, e, d, r⟩
      exact ⟨ob, es, ep, keepH e (ofDict e d), d, r⟩
    have kinH : K.In (hidT s.heap (hpT (cs.map Prod.snd) a vs ns o)) := fun b ob e => keepH (kin b ob e) (by
      by_cases hm : b ∈ cs.map Prod.snd
      · rw [(laid b hm).2] at e
        cases e
      · rw [hpT_out hm]
        cases q : hpOf a vs ns o b with
        | none => rfl
        | some u =>
          obtain ⟨rfl, z, -⟩ := hp_only q
          rw [h0 z] at e
          cases e)
    have md : Mod K mg (hidT s.heap (hpT (cs.map Prod.snd) a vs ns o)) := ⟨kinH, nsH hns, ⟨mb, nsH hb, hbb⟩, by
      obtain ⟨mc, y1, y2⟩ := lim
      exact ⟨mc, nsH y1, y2⟩⟩
    have tb : ∀ p ∈ cs, TabB (hidT s.heap (hpT (cs.map Prod.snd) a vs ns o)) mg p.1 p.2 := by
      intro p hp
      obtain ⟨hc, ht⟩ := tab p hp
      constructor
      · obtain ⟨oc, us, x1, x2, x3, x4, x5, x6, x7, e, r1, r2, rest⟩ := hc
        refine ⟨oc, us, x1, x2, x3, x4, x5, x6, x7, keepH e (free e (fun l n z => ?_) fun z => ?_), r1, r2, rest⟩
        · rw [r2] at z; cases z
        · rw [r2] at z
          cases z
          have := rest.1
          simp at this
      · obtain ⟨bm, ob, b1, b2, b3, b4, b5, b6⟩ := bmod
        refine ⟨bm, ob, b1, b2, ?_, ?_, keepH b3 (free b3 (fun l n z => ?_) fun z => ?_), b4, b5, b6⟩
        · intro q
          obtain ⟨og, es, ep, e, d, _⟩ := hns
          rw [q, e] at b3
          cases b3
          rw [d] at b6
          cases b6
        · intro q
          rw [q, ht] at b3
          cases b3
          cases b6
        · rw [b6] at z; cases z
        · rw [b6] at z; cases z
      · intro q
        obtain ⟨og, es, ep, e, d, _⟩ := hns
        rw [q, ht] at e
        cases e
        cases d
    have e0 : Env0 P w K mg (hidT s.heap (hpT (cs.map Prod.snd) a vs ns o)) callerA [] s (hpT (cs.map Prod.snd) a vs ns o) :=
      { frames := rfl, mod := md, bs := fun b ob e => of_hidT e, bsz := Nat.le_of_eq (hidT_size _ _), funs := trivial, frf := fun b z => absurd (show b ∈ ([] : List Addr) from z) (by simp), hok := hok, bare := .of_eq hgen }
    have z := F _ kinH (nsH hns) tb callerA [] s (hpT (cs.map Prod.snd) a vs ns o) [.ref a] [.ref a] _ E0 hr rfl e0 (.cons rfl .nil) (sp _ (fun p hp => hpT_in (List.mem_map_of_mem hp)) seq)
    refine codeAny_mono z fun r s' h => ?_
    match r, h with
    | .error _, h => exact (show False from h).elim
    | .ok .next, h => exact h.elim
    | .ok .brk, h => exact h.elim
    | .ok .cont, h => exact h.elim
    | .ok (.ret u), h =>
      obtain ⟨v, H', os, bare, un, hok', r', q⟩ := h
      cases (show v = .bl true from q)
      cases (show u = Value.bool true from r')
      have key : ∀ b ob, b ∉ cs.map Prod.snd → s.heap.get? b = some ob → s'.heap.get? b = some ob := by
        intro b ob hm e
        cases q2 : hpOf a vs ns o b with
        | none => exact un.keep b ob e ((hpT_out hm).trans q2) (fun z => absurd (show b ∈ ([] : List Addr) from z) (by simp)) (by simp)
        | some u =>
          obtain ⟨rfl, -, rfl⟩ := hp_only q2
          have y := (hok' b _ (un.frzs b _ _ ((hpT_out hm).trans q2))).1
          rw [ha] at e
          cases e
          exact y
      have grow : ∀ b, b ∈ cs.map Prod.snd → ∃ more : Array Value, s'.heap.get? b = some { cls := .none, data := .fields more } := by
        intro b hm
        obtain ⟨more, z⟩ := un.tbls b #[] (hpT_in hm)
        exact ⟨_, hok' b _ z⟩
      refine ⟨rfl, ⟨fun b ob e => ?_, fun b ob e => ?_⟩, os, bare⟩
      · by_cases hm : b ∈ cs.map Prod.snd
        · obtain ⟨more, y⟩ := grow b hm
          obtain ⟨p, hp, rfl⟩ := List.mem_map.mp hm
          rw [(tab p hp).2] at e
          cases e
          exact .inr (.inl ⟨((tab p hp).1.tab (tab p hp).2).isCodeTable, rfl, #[], more, rfl, by rw [Array.empty_append]; exact y⟩)
        · exact .inl (key b ob hm e)
      · by_cases hm : b ∈ cs.map Prod.snd
        · obtain ⟨more, y⟩ := grow b hm
          exact ⟨_, y⟩
        · exact ⟨ob, key b ob hm e⟩
  cases hk : K.lookup a with
  | some ob => exact main true (fun _ => ⟨ob, hk⟩) fun z => by cases z
  | none => exact main false (fun z => by cases z) fun _ => hk
/-- the goal that k_head leaves, from the promise of a law whose defs make lambdas -/
theorem walkGT {l : PySem.W.OpenLaw} {n k : Nat} {q : Program} {loose : List Str} {XP : (Str → Option Value) → Heap → Prop} {YP : World → Heap → Prop} {d : DefRec} {K : Params → PySem.W.Frag} {xs : List Str} {g : List (Addr × Addr) → PySem.W.Frag → Sp}
    (hn : l.most = some n) (hn2 : n ≤ sizeLine) (hdf : d.params.defaults = []) (hr : Room k callerA) (hY : ∀ (w : World) (h : Heap), YP w h → (K w.params).In h)
    (hx : ∀ x ∈ xs, ((recsOf q).find? (fun e => e.name == x)).isSome = true)
    (F : ∀ (w : World) (mg : Str → Option Value) (fa : Addr) (h : Heap), (K w.params).In h → h.Ns mainGlobals mg → mg d.name = some (.ref fa) →
      ∃ cs : List (Addr × Addr), (∀ p ∈ cs, (∃ x ∈ xs, PySem.W.tabIn (K w.params) x = some p) ∧ (K w.params).lookup p.2 = none) ∧
        (∀ base : Heap, (K w.params).In base → base.Ns mainGlobals mg → (∀ p ∈ cs, TabB base mg p.1 p.2) → FnG l.prog w (K w.params) mg base CX0 k fa (g cs (K w.params))) ∧
        ∀ (H : Hp) (a : Addr) (ns : List Int), ns.length ≤ n → (∀ p ∈ cs, H p.2 = some (.tbl #[])) → SqL (K w.params) H a (ns.map V.int) → g cs (K w.params) [.ref a] H (fun v _ => v = .bl true) E0) :
    PySem.W.WalkO q loose XP YP l.row.toRowW d [] (fun f vs => PySem.call f vs) := by
  refine Att.attach_call hn hdf fun w s0 s mg mb fa o pm cd doc a vs ns G Y ho hd hcd hmg hobj hints hlen hg => ?_
  have kin := hY w _ Y
  obtain ⟨cs, h1, h2, h3⟩ := F w mg fa _ kin G.T.g hmg
  refine lawGT (cs := cs) kin G.T.g G.T.b G.T.builtins G.T.nolimit hg (fun p hp => ?_) (fun p hp => (h1 p hp).2) G.T.bmain hobj hints (Nat.le_trans hlen hn2) hr h2 fun H hH hS => h3 H a ns hlen hH hS
  obtain ⟨⟨x, hxs, ht⟩, -⟩ := h1 p hp
  obtain ⟨dr, hdr⟩ := Option.isSome_iff_exists.mp (hx x hxs)
  exact PySem.W.tab_of G.T kin hdr ht
end RR
set_option maxHeartbeats 4000000
namespace RR
open PySem PySem.Spec PyProof.Rows L2 LamX
/-! ### an exception that was caught, as a value -/
/-- a caught exception of the class cls, its dict d, at a -/
def HeldX (cls : Value) (d : Option Addr) (a : Addr) : HO := .ext fun h => ∃ oe : Obj, h.get? a = some oe ∧ Zc cls d oe ∧ ∃ vs, oe.data = .fields vs
section
variable {X : Cx} {pins : List (Addr × Obj)} {σ : L2.St} {H : Hp} {s : Shared} {a : Addr} {o : HO}
/-- an object that came up behind the def's entry is tracked from now on -/
theorem track (I : Inv X pins σ H s) (n0 : X.s_0.heap.get? a = none) (na : H a = none) (nL : a ≠ X.env.locals) (nc : ∀ x c, X.env.cells.lookup x = some c → c ≠ a) (np : ∀ p ∈ X.pn ++ pins, p.1 ≠ a)
    (new : ObjOk X.prog X.w (upd H a o) s.heap a o) : Inv X pins σ (upd H a o) s := by
  have old : ∀ {b : Addr} {u : HO}, H b = some u → upd H a o b = some u := fun e => (upd_ne (ne_of_none e na)).trans e
  exact
    { ok := I.ok, os := I.os, bare := I.bare, loc := I.loc, cell := I.cell, len := I.len
      base :=
        { keep := I.base.keep, slot := I.base.slot, there := I.base.there
          free := fun b u e n hx => by
            rw [upd_ne fun z => by rw [z, n0] at e; cases e]
            exact I.base.free b u e n hx
          tups := fun b xs e => old (I.base.tups b xs e)
          frzs := fun b u v e => old (I.base.frzs b u v e)
          tbls := fun b ps e => by
            obtain ⟨m, q⟩ := I.base.tbls b ps e
            exact ⟨m, old q⟩ }
      free := (upd_ne nL.symm).trans I.free
      freeC := fun x c e => (upd_ne (nc x c e)).trans (I.freeC x c e)
      pin := fun p hp => by
        obtain ⟨h1, h2, h3⟩ := I.pin p hp
        exact ⟨h1, (upd_ne (np p hp)).trans h2, h3⟩
      hok := fun b u e => by
        by_cases hb : b = a
        · subst hb
          rw [upd_same] at e
          cases e
          exact new
        · rw [upd_ne hb] at e
          exact (I.hok b u e).stay (fun _ _ _ q => q) (fun _ q => old q) fun _ _ q => old q }
theorem suite_ok (I : Inv X pins σ H s) : Inv (X.suite a (X.pn ++ pins)) [] σ H s :=
  ⟨I.ok.suite _ _, I.os, I.bare, I.base, I.loc, I.cell, I.free, I.freeC, fun p hp => I.pin p (by rw [List.append_nil] at hp; exact hp), I.hok, I.len⟩
theorem suite_end {pn' : List (Addr × Obj)} (I : Inv (X.suite a (X.pn ++ pins)) pn' σ H s) (ok : X.Ok) : Inv X pins σ H s :=
  ⟨ok, I.os, I.bare, I.base, I.loc, I.cell, I.free, I.freeC, fun p hp => I.pin p (List.mem_append_left _ hp), I.hok, I.len⟩
end
/-- the wish of 'except c as n', where the exception stays known behind its suite: slot i is n's -/
def wAsV (K : PySem.W.Frag) (c : Value) (i : Nat) (ts : Addr → Value → Option Addr → TS) (Wo : WX) (D : Ends) : WX := fun cls d σ H =>
  ∃ b, PySem.W.exmOne K cls c = some b ∧
    (b = true → ∀ a, H a = none → ts a cls d { nx := fun σ' H' => D.nx (σ'.set i none) H', rt := D.rt, bk := fun σ' H' => D.bk (σ'.set i none) H', ct := fun σ' H' => D.ct (σ'.set i none) H' } (σ.set i (some (.ref a))) (upd H a (HeldX cls d a))) ∧
    (b = false → Wo cls d σ H)
section
variable {X : Cx} {x n : Str} {c : Value} {i : Nat} {body suite : List Stmt} {b₀ : Stmt} {np pos pos' : Pos} {tb : WX → TS} {ts : Addr → Value → Option Addr → TS} {Wo : WX}
theorem ps_tryV (hs : X.stack = X.env :: X.outer) (hex : X.ex = []) (hf : X.env.frame = some X.env.locals) (hN : X.N.Nodup) (hi : X.N[i]? = some n) (hln : X.env.kindOf n = some .local) (hc : Names X x c) (tk : Takes X Wo)
    (hb : ∀ (W : WX) (pn : List (Addr × Obj)) (xe : Value → Shared → Prop), Takes (X.tr pn xe) W → PassesOwn (model X.prog X.w) X.A X.env xe → PSs (X.tr pn xe) body (tb W))
    (hsu : ∀ (a : Addr) (cls : Value) (d : Option Addr) (pn : List (Addr × Obj)), PSs (X.suite a pn) (b₀ :: suite) (ts a cls d)) :
    PS X (.Try body [.ExceptHandler (some (.Name x np)) (some n) (b₀ :: suite) pos'] [] [] pos) (fun D σ H => tb (wAsV X.K c i ts Wo D) D σ H) := by
  constructor
  intro pins s σ H D I h
  have ok := I.ok
  have frame : X.A.frames = some (X.env :: X.outer) := ok.frames.trans (congrArg some hs)
  apply wpAny_Try_except
  have looking := (hb (wAsV X.K c i ts Wo D) (X.pn ++ pins)
    (fun e t1 => wpAny (model X.prog X.w) X.A (noteFrame e X.env)
      (fun _ t2 => wpAny (model X.prog X.w) X.A (setFlight e none)
        (fun _ t3 => wpAny (model X.prog X.w) X.A (handleBy e X.env [.ExceptHandler (some (.Name x np)) (some n) (b₀ :: suite) pos']) (SP X pins D) X.xe t3) X.xe t2) X.xe t1)
    (fun u s' fly => ?_) PassesOwn.looking).run [] s σ H D (I.toTry _) h
  · refine wpAny_mono looking (fun f t hsp => ?_) fun _ _ z => z
    match f, hsp with
    | .next, ⟨σ', H', J, q⟩ => exact wpAny_execs_nil ⟨σ', H', J.ofTry ok, q⟩
    | .brk, ⟨σ', H', J, q⟩ => exact ⟨σ', H', J.ofTry ok, q⟩
    | .cont, ⟨σ', H', J, q⟩ => exact ⟨σ', H', J.ofTry ok, q⟩
    | .ret u, ⟨v, σ', H', J, r, q⟩ => exact ⟨v, σ', H', J.ofTry ok, r, q⟩
  · obtain ⟨a, B, sI, pl, σ', H', cls, d, rfl, J0, nb, up, sky, na, os, ag, b, hb1, yes, no⟩ := fly
    have J : Inv X pins σ' H' sI := J0.ofTry ok
    have sky' : Sky B (X.env :: X.outer) a (Zc cls d) X.env.locals s'.heap := hs ▸ sky
    show wpAny (model X.prog X.w) X.A (noteFrame (.ref a) X.env) _ _ _
    refine Sky.land Zc.steady frame hf sky' fun h3 fl3 up3 => ?_
    have J3 : Inv X pins σ' H' { s' with heap := h3 } := J.landed nb fl3.1 (up.trans up3) os ag
    obtain ⟨oe3, vs3, he3, hz3, hd3⟩ := fl3.there
    have S3 := suite_ok (a := a) J3
    refine wpAny_handleBy_cons (codeAny_handlers_test ?_) fun q => by cases q
    have ofCls : PySem.W.Looks (model X.prog X.w) h3 (typeOf (.ref a)) cls := by
      intro A Q E t k q
      exact wpAny_typeOf_ref (k _ _ he3) (by rw [hz3.1]; exact q)
    have meets := PySem.W.exm_one (M := model X.prog X.w) J3.kIn ofCls hb1
    have named : ∀ {Q : Value → Shared → Prop} {E : Value → Shared → Prop}, Q c { s' with heap := h3 } → wpAny (model X.prog X.w) (X.A.mark (some (.ref a))) (eval (.Name x np) X.env) Q E { s' with heap := h3 } := by
      intro Q E q
      obtain ⟨g1, g2, g3⟩ := hc
      rcases g3 with g3 | ⟨g3, g4, g5⟩
      · exact ld_glob (X := X.suite a (X.pn ++ pins)) S3 g1 g3 q g2
      · exact ld_blt (X := X.suite a (X.pn ++ pins)) S3 g1 g3 g4 q g5 g2
    refine named (meets.here ?_)
    match b, hb1, yes, no with
    | true, _, yes, _ =>
      refine codeAny_handlers_suite_as (HandSPX.lands_againZ fl3 fun h4 fl4 up4 => ?_)
      have J4 : Inv X pins σ' H' { s' with heap := h4 } := J.landed nb fl4.1 ((up.trans up3).trans up4) os ag
      obtain ⟨oe4, vs4, he4, hz4, hd4⟩ := fl4.there
      have inB : ∀ {p : Addr} {u : Obj}, sI.heap.get? p = some u → p ∉ frs X.stack → p ≠ a := by
        intro p u e hp z
        have y := nb p u e hp
        rw [z, fl4.2.1] at y
        cases y
      have offStack : a ∉ frs X.stack := by
        rw [hs]
        intro hm
        obtain ⟨_, o', e', hnf⟩ := fl4.2.2.1.mem hm
        rw [he4] at e'
        cases e'
        exact hnf _ hd4
      have n0 : X.s_0.heap.get? a = none := by
        cases e : X.s_0.heap.get? a with
        | none => rfl
        | some u =>
          obtain ⟨u', e'⟩ := J.base.there a u e (by rw [hex]; exact fun z => nomatch z)
          exact absurd rfl (inB e' offStack)
      have nL : a ≠ X.env.locals := by
        intro z
        refine offStack ?_
        rw [hs]
        exact List.mem_filterMap.mpr ⟨X.env, List.mem_cons_self, by rw [hf, z]⟩
      have nc : ∀ y k, X.env.cells.lookup y = some k → k ≠ a := by
        intro y k e z
        obtain ⟨v, oc, ho, hd⟩ := J4.cell y k e
        rw [z] at ho
        have ho' : h4.get? a = some oc := ho
        rw [he4] at ho'
        cases ho'
        rw [hd4] at hd
        cases hd
      have pinned : ∀ p ∈ X.pn ++ pins, p.1 ≠ a := by
        intro p hp
        obtain ⟨e1, e2, e3, e4, _⟩ := J.pin p hp
        refine inB e1 ?_
        rw [hs]
        intro hm
        obtain ⟨env, hm1, hm2⟩ := List.mem_filterMap.mp hm
        rcases List.mem_cons.mp hm1 with z | z
        · rw [z, hf] at hm2
          exact e3 (Option.some.inj hm2).symm
        · exact e4 (List.mem_filterMap.mpr ⟨env, z, hm2⟩)
      have J5 : Inv X pins σ' (upd H' a (HeldX cls d a)) { s' with heap := h4 } := track J4 n0 na nL nc pinned ⟨⟨oe4, he4, hz4, vs4, hd4⟩, ⟨oe4, he4⟩, fun _ _ ⟨u, e, z⟩ k => ⟨u, k u e, z⟩⟩
      refine store_ok (X := X.suite a (X.pn ++ pins)) (v := .ref a) (suite_ok (a := a) J5) hN hi (.inl hln) rfl (fun s5 S5 => ?_) (.inr hln)
      refine wpAny_mono ((hsu a cls d (X.pn ++ pins)).run [] s5 _ _ _ S5 (yes rfl a na)) (fun f s6 hsp => ?_) fun _ _ z => z.elim
      have fin : ∀ {σ6 : L2.St} {H6 : Hp} {Q : Shared → Prop}, Inv (X.suite a (X.pn ++ pins)) [] σ6 H6 s6 → (∀ s7, Inv X pins (σ6.set i none) H6 s7 → Q s7) →
          wpAny (model X.prog X.w) X.A (do bindName X.env n .none; unbindBehindTheSuite X.env n pos') (fun _ s7 => Q s7) X.xe s6 := fun S6 hq => gone_ok (suite_end S6 ok) hN hi hln hq
      match f, hsp with
      | .next, ⟨σ6, H6, S6, q6⟩ => exact fin S6 fun s7 J7 => ⟨_, _, J7, q6⟩
      | .brk, ⟨σ6, H6, S6, q6⟩ => exact fin S6 fun s7 J7 => ⟨_, _, J7, q6⟩
      | .cont, ⟨σ6, H6, S6, q6⟩ => exact fin S6 fun s7 J7 => ⟨_, _, J7, q6⟩
      | .ret u, ⟨v6, σ6, H6, S6, r6, q6⟩ => exact fin S6 fun s7 J7 => ⟨_, _, _, J7, r6, q6⟩
    | false, _, _, no =>
      show wpAny _ X.A (handleBy (.ref a) X.env []) _ _ _
      apply wpAny_handleBy_nil
      obtain ⟨_, _, _, oe, vs, T, oT, ts', he, hz, hd, h1, hr⟩ := id fl3
      unfold PySem.passOn
      apply wpAny_bind
      apply wpAny_field he hd h1
      rw [if_neg (by simp : ¬ ((Value.ref T == Value.none) = true))]
      have off : wpAny (model X.prog X.w) X.A (setFlight (.ref a) X.env.frame) (fun _ s4 => wpAny (model X.prog X.w) X.A (throw (.ref a) : Sem Flow) (SP X pins D) X.xe s4) X.xe { s' with heap := h3 } := by
        rw [hf]
        refine HandSPX.setFlight_upZ fl3 fun h4 hh4 up4 => wpAny_throw (tk _ _ ?_)
        exact ⟨a, B, sI, pins, σ', H', cls, d, rfl, J, nb, (up.trans up3).trans up4, .inr (.inr (by rw [hs]; exact hh4)), na, os, ag, no rfl⟩
      first
        | exact wpAny_bind (wpAny_pure (wpAny_bind off))
        | exact wpAny_bind off
end
/-! ### isinstance of such a value -/
def rIsX (K : PySem.W.Frag) (D : Addr) : List V → Hp → VK → Prop := fun xs H Q =>
  ∃ (a : Addr) (c : V) (cv : Value) (b : Bool), xs = [.ref a, c] ∧ H a = some (HeldX (.ref D) none a) ∧ (∀ u, RelV c u → u = cv) ∧ PySem.W.kitOne K (.ref D) cv = some b ∧ Q (.bl b) H
theorem call_isX {X : Cx} {D : Addr} (C : ExcC X.K D) : CallR X (.builtin "isinstance") (rIsX X.K D) := by
  rintro pins s σ H xs us Q I r ⟨a, c, cv, b, rfl, ha, hcv, e, q⟩
  match us, r with
  | [_, _], .cons rx (.cons rc .nil) =>
    cases rx
    obtain rfl := hcv _ rc
    obtain ⟨⟨oe, he, hz, vs, hd⟩, _, _⟩ := I.hok a _ ha
    have at_ : PySem.W.InstAt s.heap a oe D none := by
      obtain ⟨oc, od, oda, osl⟩ := oe
      obtain ⟨z1, z2⟩ := hz
      dsimp only at z1 z2 hd
      subst z1 z2 hd
      exact ⟨he, rfl, rfl, trivial⟩
    exact PySem.W.kia_one (PySem.W.handS_kitx_exc C.hg C.hk C.hs C.hd C.ha C.hn C.ht C.hm) I.kIn at_ e (fun z => nomatch z) fun tk => ⟨.bl b, H, I.kept (t' := tk) fun _ _ z => z, rfl, q⟩
/-! ### X(), an own exception class without own __init__ -/
theorem pmk_own0 {X : Cx} {C : Addr} {bmB : List Value} {B newId initId : String} {x : Str} {p pos : Pos} (F : ExcBaseFacts B newId initId bmB) (q : PySem.W.excIn X.K C bmB newId = true) (gC : X.mg x = some (.ref C)) (kC : PySem.W.keepIn X.K (.ref C) = true) (r : Raises X (.ref C)) (hg : Gl X x)
    (hdb : (x == ("__debug__" : Str)) = false := by decide) : PMk X (.Call (.Name x p) [] [] pos) (fun _ H Q => Q (.ref C) none H) := by
  intro pins s σ H Q I h
  apply wpAny_Call_Name_kw
  refine ld_glob I hg gC ?_ hdb
  refine PySem.W.callWith_K0 I.kIn kC ?_
  show wpAny _ _ (call (.ref C) []) _ _ _
  obtain ⟨bm, N, nm, qn, bs, hdct, sn, sub, ab, col, dd, k0, k1, k2, k3, k5, mN, hC, hN, hni, T⟩ := exc_obj I.kIn q
  refine wpAny_call_exc_subT F T hC hN hni (fun h' e hm => ?_) (by show 0 ≤ sizeLine; rw [sizeLine_eq]; omega)
  exact mk_of I hm r h (I.hok.gone hm.new)
end RR
set_option maxHeartbeats 4000000
namespace RR
open PySem PySem.Spec PyProof.Rows L2 LamX
/-! ### a lambda handed to a def, its body read where no display is under way -/
section
variable {X : Cx} {pins : List (Addr × Obj)} {σ : L2.St} {H : Hp} {s : Shared}
/-- the qualified name of a lambda of this def -/
abbrev lamQ (X : Cx) : Str := X.env.qual ++ "<lambda>"
/-- how the def that got a lambda reads its call: E', Q' are the wishes that the lambda's own reading is told -/
abbrev tActS (i : Nat) (f c' : Addr) (q : Str) (W : WX) (tl : XK → Hp → VK → Prop) : TE := fun σ H Q => σ[i]? = some (some (.ref f)) ∧ H c' = some (CodeO c' q) ∧
  ∃ (E' : XK) (Q' : VK), (∀ cls d H', E' cls d H' → W cls d σ H') ∧ (∀ v H', Q' v H' → Q v H') ∧ tl E' H Q'
theorem pe_actF {CXg : CXT} {Eg : XK} {Ng : List Str} {qg : Str} {sg : Scope} {g f c' : Addr} {cdg pm ctv : Value} {params : Arguments} {body : Expr} {scope : Scope} {k i : Nat} {a : Str} {pn : List (Addr × Obj)} {xe : Value → Shared → Prop} {W : WX} {t : XK → TE} {p1 p2 : Pos}
    (I : Inv X pins σ H s) (L : LamS X.env.scope scope) (made : s.heap.get? f = some (PySem.W.kla_obj "<lambda>" (lamQ X) params body scope (cloFrom X.env.cells scope.names []) pm c' ctv)) (nf : H f = none) (off : f ∉ frs X.stack)
    (noArgs : bindArgs (PySem.W.kla_fn "<lambda>" (lamQ X) params body scope (cloFrom X.env.cells scope.names []) pm (.ref c') ctv) ⟨[], []⟩ = pure [])
    (tk : Takes ((cxOf CXg X.prog X.w X.K X.mg X.base Ng qg sg g cdg X.A X.stack s H Eg).tr pn xe) W) (hr : Room (k + 1) (X.A.deeper (envOfC qg sg s.heap.objs.size g cdg))) (fr : Free X.A)
    (hbody : ∀ (A : Around) (outer : List Env) (s : Shared) (H : Hp) (E : XK), Room k (A.deeper (lamEnv X scope s.heap.objs.size f c')) → Free (A.deeper (lamEnv X scope s.heap.objs.size f c')) → PE (lamCx X A outer s H E scope f c') body (t E))
    (hN : Ng[i]? = some a) (hv : Vis sg a) (hd : (a == ("__debug__" : Str)) = false := by decide) (hcd : (a == ("__classdict__" : Str)) = false := by decide) :
    PE ((cxOf CXg X.prog X.w X.K X.mg X.base Ng qg sg g cdg X.A X.stack s H Eg).tr pn xe) (.Call (.Name a p1) [] [] p2) (tActS i f c' (lamQ X) W fun E H' Q' => t E σ H' Q') := by
  constructor
  rintro pinsZ sZ σZ HZ Q IZ ⟨slot, code, E, Q1, hW, hQ, red⟩
  have name := (pe_var (X := (cxOf CXg X.prog X.w X.K X.mg X.base Ng qg sg g cdg X.A X.stack s H Eg).tr pn xe) (pos := p1) (i := i) hN hv hd hcd).run pinsZ sZ σZ HZ (fun v H1 => v = .ref f ∧ H1 = HZ) IZ ⟨.ref f, slot, rfl, rfl⟩
  refine wpAny_Call_Name_kw (thn name fun u s1 h1 => ?_)
  obtain ⟨v, H1, I1, r1, rfl, rfl⟩ := h1
  cases (show u = Value.ref f from r1)
  have there : s1.heap.get? f = some (PySem.W.kla_obj "<lambda>" (lamQ X) params body scope (cloFrom X.env.cells scope.names []) pm c' ctv) := I1.base.keep f _ made nf off fun z => nomatch (show f ∈ ([] : List Addr) from z)
  apply PySem.W.callWith_F0 ⟨_, _, _, _, there⟩
  have grown : Un (frs X.stack) [] H H1 s.heap s1.heap := I1.base
  obtain ⟨⟨oc, vs, tt, c1, c2, c3⟩, -, -⟩ := I1.hok c' _ code
  have run : codeAny (model X.prog X.w) (X.A.deeper (envOfC qg sg s.heap.objs.size g cdg)) (.call (.ref f) ⟨[], []⟩) (CR (L2.CX X.prog X.w) (envOfC qg sg s.heap.objs.size g cdg :: X.stack) X.prog X.w H1 s1 Q1 E) s1 := by
    refine PySem.W.kla_callFunE hr.depth there rfl L.co L.gen rfl ⟨c', oc, vs, tt, rfl, c1, c2, c3⟩ ?_
    rw [noArgs]
    refine wpAny_pure (wpAny_newFunctionEnv (fun y hy => (L.own y hy).2) (fun y hy => nomatch hy) (fun h1 ns but => ⟨I1.nolimit.fresh _ but, ?_⟩) L.kind)
    show codeAny _ _ (.expr body (lamEnv X scope s1.heap.objs.size f c')) _ _
    have keeps : ∀ b o, s1.heap.get? b = some o → h1.get? b = some o := by
      intro b o e
      exact but.extBut b o (Nat.ne_of_lt (Heap.lt_size e)) (Heap.get?_push_of_some _ e)
    have J := lam_start2 (A := X.A.deeper (envOfC qg sg s.heap.objs.size g cdg)) (outer := envOfC qg sg s.heap.objs.size g cdg :: X.stack) (E := E) (f := f) (c' := c') (h₁ := h1) (tk := s1.toks + ([] : List (Str × Value)).length) I L I1.env0 hr.hd grown ns keeps
    refine PySem.W.kla_codeExpr (wpAny_mono ((hbody _ _ s1 H1 E (hr.deeper _) (free_deeper _ (free_deeper _ fr))).run [] _ _ H1 Q1 J red) (fun v s' hq => ?_) fun _ _ z => z)
    obtain ⟨w', H', J', rv, q⟩ := hq
    exact ⟨w', H', J'.os, J'.bare, J'.base, J'.hok, rv, q⟩
  refine wpAny_call (codeAny_mono run fun r s' hq => ?_)
  match r, hq with
  | .error e, hq => exact tk e s' (XE.of_call I1 (fun cls d H' h => hW cls d H' h) hq)
  | .ok (.ret _), hq =>
    obtain ⟨w', H', J', rv, q⟩ := I1.after hq
    exact ⟨w', H', J', rv, hQ _ _ q⟩
  | .ok .next, hq => exact hq.elim
  | .ok .brk, hq => exact hq.elim
  | .ok .cont, hq => exact hq.elim
end
/-- a def that calls what it got; TT: what it makes of the lambda's reading -/
def GivesS (X : Cx) (Ng : List Str) (x : Str) (sg : Scope) (g : Addr) (cdg : Value) (bg : List Stmt) (a : Str) (q : Str) (TT : (XK → Hp → VK → Prop) → Hp → VK → Prop) : Prop :=
  ∀ (f c' : Addr) (s : Shared) (H : Hp) (Q : VK) (tl : XK → Hp → VK → Prop),
    (∀ (W : WX) (pn : List (Addr × Obj)) (xe : Value → Shared → Prop) (p1 p2 : Pos), Takes ((cxOf C8.CX0 X.prog X.w X.K X.mg X.base Ng x sg g cdg X.A X.stack s H C8.E0).tr pn xe) W →
      PE ((cxOf C8.CX0 X.prog X.w X.K X.mg X.base Ng x sg g cdg X.A X.stack s H C8.E0).tr pn xe) (.Call (.Name a p1) [] [] p2) (tActS 0 f c' q W tl)) →
    H c' = some (CodeO c' q) → TT tl H Q →
    ∃ t, PSs (cxOf C8.CX0 X.prog X.w X.K X.mg X.base Ng x sg g cdg X.A X.stack s H C8.E0).nox bg t ∧ t { nx := fun _ H' => Q .non H', rt := Q } (L2.start Ng [.ref f]) H
section
variable {X : Cx}
/-- x(lambda: body) -/
theorem pe_lamF {T : List (Addr × Str)} {TT : (XK → Hp → VK → Prop) → Hp → VK → Prop} {x a : Str} {g c P : Addr} {k : Nat} {st : Stmt} {fd : FuncData} {Ng : List Str}
    {params : Arguments} {body : Expr} {scope : Scope} {t : XK → TE} {p lpos pos : Pos} (F : Fun X.K x x st g fd) (hg : Gl X x) (hm : X.mg x = some (.ref g)) (hk : PySem.W.keepIn X.K (.ref g) = true)
    (hb : L2.Binds X.K fd [a] []) (Sg : FnScope Ng [a] (defScope st)) (hNg : Ng[0]? = some a) (hva : Vis (defScope st) a)
    (hG : ∀ cdv, GivesS X Ng x (defScope st) g cdv (defBody st) a (lamQ X) TT)
    (TB : TabB X.base X.mg c P) (hcode : X.env.code = .ref c) (hmT : (P, lamQ X) ∈ T) (hu : ∀ p ∈ T, p.1 = P → p.2 = lamQ X) (hr : Room (k + 2) X.A) (fr : Free X.A) (L : LamS X.env.scope scope) (hdef : defaultsOf params X.env = ([], []))
    (hbind : ∀ (q : Str) (cl : List (Str × Addr)) (pm cv ctv : Value), bindArgs (PySem.W.kla_fn "<lambda>" q params body scope cl pm cv ctv) ⟨[], []⟩ = pure [])
    (hbody : ∀ (A : Around) (outer : List Env) (s : Shared) (H : Hp) (E : XK) (f c' : Addr), Room k (A.deeper (lamEnv X scope s.heap.objs.size f c')) → Free (A.deeper (lamEnv X scope s.heap.objs.size f c')) → PE (lamCx X A outer s H E scope f c') body (t E))
    (hdb : (x == ("__debug__" : Str)) = false := by decide) (hd : (a == ("__debug__" : Str)) = false := by decide) (hcd : (a == ("__classdict__" : Str)) = false := by decide) :
    PE X (.Call (.Name x p) [.Lambda params body scope lpos] [] pos) (tLam T TT t) := by
  obtain ⟨oc, od, kV, doc, pm, an, cdv, ct, osl, rfl, lk, hcg⟩ := F.ex
  constructor
  rintro pins s σ H Q I ⟨hT, red⟩
  apply wpAny_Call_Name_kw
  refine ld_glob I hg hm ?_ hdb
  refine PySem.W.callWith_K (h₀ := X.base) I.ok.mod.kin hk ?_ (by rfl) (by rfl)
  show wpAny _ _ (spliced ((false, eval (.Lambda params body scope lpos) X.env) :: backTo pos (starEach [] X.env))) _ _ s
  refine Calls.spliced_cons (lam_make2 I TB hcode hmT hu hT hdef (L.has I.ok) fun f c' pm' ctv H1 s' I1 eN T1 hf hfn hfr hco => ?_)
  refine Calls.spliced_nil ⟨I1.kIn, ?_⟩
  have run : codeAny (model X.prog X.w) X.A (.call (.ref g) ⟨[.ref f], []⟩) (CR C8.CX0 X.stack X.prog X.w H1 s' Q C8.E0) s' := by
    refine run_ofS (N := Ng) (ps := [a]) (us := [.ref f]) (vs := [.ref f]) lk hcg Sg hr I1.env0 (hb s' [.ref f] I1.kIn rfl) (.cons rfl .nil) rfl fun hr' => ?_
    obtain ⟨t', h1, h2⟩ := hG cdv f c' s' H1 Q (fun E H' Q' => t E σ H' Q') (fun W pn xe p1 p2 tk => pe_actF (i := 0) (t := t) I1 L hf hfn hfr (hbind _ _ _ _ _) tk hr' fr (fun A outer s H E z1 z2 => hbody A outer s H E f c' z1 z2) hNg hva hd hcd) hco (red H1 eN T1)
    exact ⟨t', h1.nox, h2⟩
  refine wpAny_call (codeAny_mono run fun r s2 hq => ?_)
  match r, hq with
  | .error e, hq => exact (show False from hq).elim
  | .ok (.ret _), hq => exact I1.after hq
  | .ok .next, hq => exact hq.elim
  | .ok .brk, hq => exact hq.elim
  | .ok .cont, hq => exact hq.elim
end
end RR
set_option maxHeartbeats 4000000
namespace RR
open PySem PySem.Spec PyProof.Rows L2 LamX
/-! ### more operators -/
theorem dec_fdiv : Declines .FloorDiv := ⟨_, _, PySem.F.slot_int_floordiv, PySem.F.entry_int_floordiv, fun a b => PySem.F.args_int_floordiv_2 a b, fun a t l C dx =>
  .of_wp fun prog w A R s h => by obtain ⟨hp, g, d, tk, os⟩ := s; obtain ⟨hl, h⟩ := h; unfold PySem.W.instObj at hl; wp_walk; exact ⟨_, rfl, h⟩⟩
theorem dec_mod : Declines .Mod := ⟨_, _, PySem.F.slot_int_mod, PySem.F.entry_int_mod, fun a b => PySem.F.args_int_mod_2 a b, fun a t l C dx =>
  .of_wp fun prog w A R s h => by obtain ⟨hp, g, d, tk, os⟩ := s; obtain ⟨hl, h⟩ := h; unfold PySem.W.instObj at hl; wp_walk; exact ⟨_, rfl, h⟩⟩
section
variable {X : Cx}
/-- one of two readings of an operator -/
theorem op_both {f : Value → Value → Sem Value} {r1 r2 : R2} (h1 : OpR X f r1) (h2 : OpR X f r2) : OpR X f (fun x y H Q => r1 x y H Q ∨ r2 x y H Q) := by
  intro pins s σ H x y v u Q I rx ry h
  rcases h with h | h
  · exact h1 pins s σ H x y v u Q I rx ry h
  · exact h2 pins s σ H x y v u Q I rx ry h
/-- // of ints, the divisor of either sign -/
def CDivS (_ j : Int) : Prop := j ≠ 0 ∧ j.natAbs.log2 < 9000
theorem divS_ok {i j : Int} {b : Nat} (h : j ≠ 0) (hb : j.natAbs < 2 ^ b) (h0 : 0 < b) (h9 : b ≤ 9000) : CDivS i j := ⟨h, Nat.lt_of_lt_of_le (PySem.Flt.log2_lt_of h0 hb) h9⟩
theorem op_fdivS : OpR X (binaryOp .FloorDiv) (rI CDivS fun i j => .int (i.fdiv j)) := L2.opI fun i j _ _ _ _ _ hc q => floordiv_int hc.1 q (.inl (PyProof.noPylong_of_log2 hc.2))
/-- an exception that nobody wishes does not come -/
theorem passX0 : Passes (L2.CX X.prog X.w) X E0 := by
  rintro pins σ H s e s' I ⟨a, B, H', cls, d, _, _, _, _, _, _, _, z⟩
  exact z.elim
end
/-! ### an instance asked whether it is true -/
section
variable {X : Cx} {CX : CXT} {C f : Addr} {n : Nat} {g : Sp} {E : XK}
def tOwnB (C : Addr) (g : Sp) (E : XK) (t : TE) : TT := fun σ H Q => t σ H fun x H1 => (∃ a dx fs, x = .ref a ∧ H1 a = some (.ins C dx fs)) ∧ g [x] H1 (fun v H2 => ∃ b, v = .bl b ∧ Q b H2) E
theorem pt_own {e : Expr} {t : TE} (hs : PySem.W.findIn X.K (.ref C) "__bool__" = some (some (.ref f))) (hf : PySem.W.isFn X.K (.ref f) = true) (F : FnR X.prog X.w X.K X.mg X.base CX n f g) (hr : Room n X.A) (hx : Passes CX X E) (h : PE X e t)
    (he : ∀ whole, isTrue e X.env whole = (do let v ← whole; standAt e.pos; holding [v] (truthy v)) := by intro _; rfl) : PT X e (tOwnB C g E t) := by
  constructor
  intro pins s σ H Q I hw
  refine isTrue_plain (thn (h.run pins s σ H _ I hw) ?_) (he _)
  rintro v s1 ⟨x, H1, I1, r1, ⟨a, dx, fs, rfl, ea⟩, q⟩
  obtain rfl : v = .ref a := r1
  obtain ⟨od, J⟩ := inst_of I1 ea
  obtain ⟨m, fr⟩ := I1.fr
  refine PySem.W.truthy_K fr I1.ok.mod.kin J hs hf ?_
  refine wpAny_mono (wpAny_call (run_fnR (us := [.ref a]) (vs := [.ref a]) F hr hx I1 (.cons rfl .nil) q)) ?_ fun _ _ z => z
  rintro u s2 ⟨z, H2, I2, rz, b, rfl, qz⟩
  obtain rfl : u = .bool b := rz
  exact ⟨H2, I2, qz⟩
end
/-! ### list.count of plain items -/
section
variable {X : Cx}
def rCntF (K : PySem.W.Frag) : V → List V → Hp → VK → Prop := fun x xs H Q => ∃ (a : Addr) (ys : List V) (y : V), x = .ref a ∧ xs = [y] ∧ SqL K H a ys ∧ flatV y = true ∧ ys.all flatV = true ∧ Q (.int (ys.countP fun z => eqV z y : Nat)) H
theorem cnt_flat {y : V} : ∀ {ys : List V} {us : List Value}, Vals ys us → ys.all flatV = true → us.countP (eqU y) = ys.countP fun z => eqV z y
  | _, _, .nil, _ => rfl
  | z :: zs, u :: us, .cons r rs, f => by
    rw [List.all_cons, Bool.and_eq_true] at f
    rw [List.countP_cons, List.countP_cons, cnt_flat rs f.2, eqU_of r f.1]
theorem mt_cntF : MtR X "list.count" (rCntF X.K) := by
  rintro pins s σ H x xs v us Q I rx rxs ⟨a, ys, y, rfl, rfl, hs, fy, fys, q⟩
  cases rx
  obtain ⟨u, rfl, ru⟩ := rxs.one
  obtain ⟨its, rv, ⟨⟨cls, dd, data, sl⟩, n, ho, hc, hdn, hd⟩, hlen⟩ := I.list hs
  simp only at hc hd
  subst hc hd
  refine call_meets PySem.F.slot_list_count ⟨_, ho, rfl⟩ PySem.F.entry_list_count (PySem.F.args_list_count_2 _ _)
    (SeqAt.list_countAt a its.toArray n dd sl u (eqU y)) ⟨ho, fun u' hu' => mem_eqAt ru fy rv fys u' (by simpa using hu'), ?_⟩
  refine ⟨.int (ys.countP fun z => eqV z y : Nat), H, I.tok _, ⟨s.toks, ?_⟩, q⟩
  show Value.int ((its.toArray.toList.countP (eqU y) : Nat) : Int) s.toks = _
  rw [show its.toArray.toList.countP (eqU y) = ys.countP fun z => eqV z y from cnt_flat rv fys]
end
/-! ### fractions that are alike -/
theorem lo_mul {n m : Int} (m0 : 0 < m) : lo n m * m = n * lb n m := by
  have g0 := gd_pos (t := n) m0
  obtain ⟨a, ha⟩ := gd_dvd_l n m
  obtain ⟨b, hb⟩ := gd_dvd_r n m
  have e1 : lo n m = a := by
    unfold lo
    conv => lhs; rw [ha]
    rw [show gd (gd n m * a) m = gd n m by rw [← ha]]
    exact Int.mul_ediv_cancel_left a (Int.ne_of_gt g0)
  have e2 : lb n m = b := by
    unfold lb
    conv => lhs; rw [hb]
    rw [show gd n (gd n m * b) = gd n m by rw [← hb]]
    exact Int.mul_ediv_cancel_left b (Int.ne_of_gt g0)
  rw [e1, e2]
  conv => lhs; rw [hb]
  conv => rhs; rw [ha]
  grind
/-- a fraction in lowest terms is told by its value -/
theorem low_same {t b u d : Int} (h1 : Low t b) (h2 : Low u d) (e : t * d = u * b) : t = u ∧ b = d := by
  have c1 : Nat.gcd t.natAbs b.natAbs = 1 := by have := h1.2; unfold gd at this; omega
  have c2 : Nat.gcd u.natAbs d.natAbs = 1 := by have := h2.2; unfold gd at this; omega
  have e' : t.natAbs * d.natAbs = u.natAbs * b.natAbs := by rw [← Int.natAbs_mul, ← Int.natAbs_mul, e]
  have d1 : b.natAbs ∣ d.natAbs := (Nat.Coprime.dvd_of_dvd_mul_left (k := b.natAbs) (m := t.natAbs) (n := d.natAbs) (by rw [Nat.Coprime, Nat.gcd_comm]; exact c1) ⟨u.natAbs, by rw [e', Nat.mul_comm]⟩)
  have d2 : d.natAbs ∣ b.natAbs := (Nat.Coprime.dvd_of_dvd_mul_left (k := d.natAbs) (m := u.natAbs) (n := b.natAbs) (by rw [Nat.Coprime, Nat.gcd_comm]; exact c2) ⟨t.natAbs, by rw [← e', Nat.mul_comm]⟩)
  have bd : b.natAbs = d.natAbs := Nat.dvd_antisymm d1 d2
  have b0 := h1.1
  have d0 := h2.1
  have hb : b = d := by omega
  subst hb
  exact ⟨Int.eq_of_mul_eq_mul_right (Int.ne_of_gt b0) e, rfl⟩
/-- equal fractions have the same lowest terms -/
theorem lo_same {n m k l : Int} (m0 : 0 < m) (l0 : 0 < l) (e : n * l = k * m) : lo n m = lo k l ∧ lb n m = lb k l := by
  refine low_same (low_of m0) (low_of l0) ?_
  have a1 := lo_mul (n := n) m0
  have a2 := lo_mul (n := k) l0
  have hm : m * l ≠ 0 := Int.mul_ne_zero (Int.ne_of_gt m0) (Int.ne_of_gt l0)
  refine Int.eq_of_mul_eq_mul_right hm ?_
  have p1 : lo n m * lb k l * (m * l) = (lo n m * m) * (lb k l * l) := by grind
  have p2 : lo k l * lb n m * (m * l) = (lo k l * l) * (lb n m * m) := by grind
  rw [p1, p2, a1, a2]
  grind
theorem lo_div {n m : Int} (m0 : 0 < m) : lo n m / lb n m = n / m := by
  have g0 := gd_pos (t := n) m0
  obtain ⟨a, ha⟩ := gd_dvd_l n m
  obtain ⟨b, hb⟩ := gd_dvd_r n m
  unfold lo lb
  generalize gd n m = g at ha hb g0
  subst ha hb
  rw [Int.mul_ediv_cancel_left a (Int.ne_of_gt g0), Int.mul_ediv_cancel_left b (Int.ne_of_gt g0), Int.mul_ediv_mul_of_pos _ _ g0]
end RR
set_option maxHeartbeats 4000000
namespace RR
open PySem PySem.Spec PyProof.Rows L2 LamX
/-! ### o.m(k = v) -/
def tMethK (C : Addr) (m : Str) (n : Nat) (sp : Sp) (gV : List V → List V → List V) (E : XK) (ta : TE) (tk : TA) : TE := fun σ H Q => ta σ H fun x H1 => ∃ a dx fs, x = .ref a ∧ H1 a = some (.ins C dx fs) ∧ fs.lookup m = none ∧
  tk σ H1 fun zs H2 => zs.length = n ∧ sp (gV [x] zs) H2 Q E
theorem pe_methK {X : Cx} {CX : CXT} {k : Nat} {C f : Addr} {fd : FuncData} {ps ks : List Str} {m : Str} {sp : Sp} {E : XK} {o : Expr} {kws : List Keyword} {ta : TE} {tk : TA} {g : List Value → List Value → List Value} {gV : List V → List V → List V} {apos pos : Pos} {pl : Sem Bool}
    (he : PE X o ta) (c : Cls X.K C) (hm : Meth X.K C m f) (F : FnOk X.prog X.w X.K X.mg X.base CX k f fd ps sp) (hr : Room k X.A) (hb : KBn X.K fd ps 1 ks g gV) (hx : Passes CX X E) (hk : PK X kws tk)
    (ht : eval (.Call (.Attribute o m apos) [] kws pos) X.env = (do
      let ov ← eval o X.env
      standAt apos.atName
      let (f, first) ← holding [ov] (getMethod ov m pl)
      callWith pos f first (backTo pos (starEach [] X.env)) (backToKw pos (keywordEach kws X.env))) := by rfl)
    (hall : (backToKw pos (keywordEach kws X.env)).all (·.1.isSome) = true := by rfl) (hks : (backToKw pos (keywordEach kws X.env)).filterMap (·.1) = ks := by rfl)
    (hpl : ((backTo pos (starEach [] X.env)).any (·.1) || (backToKw pos (keywordEach kws X.env)).any (·.1.isNone)) = false := by rfl) :
    PE X (.Call (.Attribute o m apos) [] kws pos) (tMethK C m ks.length sp gV E ta tk) := by
  constructor
  intro pins s σ H Q I h
  refine PySem.W.methodCall_KW (pl := pl) (thn (he.run pins s σ H _ I h) ?_) ht
  rintro u s1 ⟨x, H1, I1, rx, a, dx, fs, rfl, ea, l, q⟩
  obtain rfl : u = .ref a := rx
  refine getmeth_ok I1 ea c hm l ?_
  refine PySem.W.callWith_KW0 (first := [.ref a]) (h₀ := X.base) I.ok.mod.kin hm.kp hall (thn (hk.run pos pins s1 σ H1 _ I1 q) ?_) hpl
  rintro ws s2 ⟨zs, H2, I2, rz, l2, q2⟩
  refine ⟨I2.kIn, ?_⟩
  rw [hks]
  exact run_fnN (us := [.ref a]) (vs := [.ref a]) F hr hb hx I2 (.cons rfl .nil) rz rfl l2 q2
/-! ### quotients and rests -/
/-- the exact quotient, as the class makes it -/
def qT (t b u d : Int) : Int := if u < 0 then -t * d else t * d
def qB (t b u d : Int) : Int := if u < 0 then -u * b else u * b
theorem qB_pos {t b u d : Int} (b0 : 0 < b) (u0 : u ≠ 0) : 0 < qB t b u d := by
  unfold qB
  split
  · exact Int.mul_pos (by omega) b0
  · exact Int.mul_pos (by omega) b0
/-- E: what comes of 0 -/
def spOver (C N : Addr) : Sp := fun vs H Q E => ∃ x y t b u d, vs = [.ref x, y] ∧ RatAt C H x t b ∧ NumV C H y u d ∧ 0 < b ∧ 0 < d ∧ Sm 1000 t ∧ Sm 1000 b ∧ Sm 1000 u ∧ Sm 1000 d ∧
  (u ≠ 0 → NewR C H Q (lo (qT t b u d) (qB t b u d)) (lb (qT t b u d) (qB t b u d))) ∧ (u = 0 → ∀ H', Same H H' → E (.ref N) none H')
def spBool (C : Addr) : Sp := fun vs H Q _ => ∃ x t b, vs = [.ref x] ∧ RatAt C H x t b ∧ Q (.bl (t != 0)) H
def spFdiv (C N : Addr) : Sp := fun vs H Q E => ∃ x y t b u d, vs = [.ref x, y] ∧ RatAt C H x t b ∧ NumV C H y u d ∧ 0 < b ∧ 0 < d ∧ Sm 1000 t ∧ Sm 1000 b ∧ Sm 1000 u ∧ Sm 1000 d ∧
  (u ≠ 0 → ∀ H', Same H H' → Q (.int ((t * d).fdiv (b * u))) H') ∧ (u = 0 → ∀ H', Same H H' → E (.ref N) none H')
/-- i // x -/
def spRfdiv (C N : Addr) : Sp := fun vs H Q E => ∃ x t b u, vs = [.ref x, .int u] ∧ RatAt C H x t b ∧ 0 < b ∧ Sm 1000 t ∧ Sm 1000 b ∧ Sm 1000 u ∧
  (t ≠ 0 → ∀ H', Same H H' → Q (.int ((u * b).fdiv (1 * t))) H') ∧ (t = 0 → ∀ H', Same H H' → E (.ref N) none H')
/-- what is left of t/b, k times u/d taken away -/
def rT (t b u d k : Int) : Int := t * d - k * u * b
def spMod (C N : Addr) : Sp := fun vs H Q E => ∃ x y t b u d, vs = [.ref x, y] ∧ RatAt C H x t b ∧ NumV C H y u d ∧ 0 < b ∧ 0 < d ∧ Sm 120 t ∧ Sm 120 b ∧ Sm 120 u ∧ Sm 120 d ∧
  (u ≠ 0 → NewR C H Q (lo (rT t b u d ((t * d).fdiv (b * u))) (b * d)) (lb (rT t b u d ((t * d).fdiv (b * u))) (b * d))) ∧ (u = 0 → ∀ H', Same H H' → E (.ref N) none H')
/-- i % x -/
def spRmod (C N : Addr) : Sp := fun vs H Q E => ∃ x t b u, vs = [.ref x, .int u] ∧ RatAt C H x t b ∧ 0 < b ∧ Sm 120 t ∧ Sm 120 b ∧ Sm 120 u ∧
  (t ≠ 0 → NewR C H Q (lo (rT u 1 t b ((u * b).fdiv (1 * t))) (1 * b)) (lb (rT u 1 t b ((u * b).fdiv (1 * t))) (1 * b))) ∧ (t = 0 → ∀ H', Same H H' → E (.ref N) none H')
/-- a quotient is no larger than what is divided -/
theorem sm_fdiv {n : Nat} {i j : Int} (h : Sm n i) : Sm n (i.fdiv j) := by
  refine Nat.lt_of_le_of_lt ?_ h
  by_cases j0 : 0 ≤ j
  · rw [Int.fdiv_eq_ediv_of_nonneg i j0]
    exact Int.natAbs_ediv_le_natAbs i j
  · have e : i.fdiv j = (-i).fdiv (-j) := by rw [Int.neg_fdiv_neg]
    rw [e, Int.fdiv_eq_ediv_of_nonneg (-i) (by omega)]
    have := Int.natAbs_ediv_le_natAbs (-i) (-j)
    rw [Int.natAbs_neg] at this
    exact this
/-- t/b less lo/lb of k u/d: in lowest terms what rT tells -/
theorem rest_same {t b u d k n m : Int} (b0 : 0 < b) (d0 : 0 < d) (hn : n = k * u) (hm : m = d) : lo (t * lb n m - lo n m * b) (b * lb n m) = lo (rT t b u d k) (b * d) ∧ lb (t * lb n m - lo n m * b) (b * lb n m) = lb (rT t b u d k) (b * d) := by
  subst hn hm
  have l0 := lb_pos (t := k * u) d0
  refine lo_same (Int.mul_pos b0 l0) (Int.mul_pos b0 d0) ?_
  have a := lo_mul (n := k * u) d0
  unfold rT
  generalize lo (k * u) m = p at a ⊢
  generalize lb (k * u) m = q at a ⊢
  grind
end RR
set_option maxHeartbeats 4000000
namespace RR
open PySem PySem.Spec PyProof.Rows L2 LamX
/-! ### what the law about quotients and rests makes -/
def kF (t b u d : Int) : Int := (t * d).fdiv (b * u)
theorem quo_floor {t b u d : Int} (b0 : 0 < b) (u0 : u ≠ 0) : lo (qT t b u d) (qB t b u d) / lb (qT t b u d) (qB t b u d) = kF t b u d := by
  rw [lo_div (qB_pos b0 u0)]
  unfold qT qB kF
  split
  · have e1 : -t * d = -(t * d) := Int.neg_mul t d
    have e2 : -u * b = -(b * u) := by rw [Int.neg_mul, Int.mul_comm]
    have p : 0 < -u * b := Int.mul_pos (by omega) b0
    rw [e2] at p
    rw [e1, e2, ← Int.fdiv_eq_ediv_of_nonneg _ (Int.le_of_lt p), Int.neg_fdiv_neg]
  · have p : 0 < u * b := Int.mul_pos (by omega) b0
    rw [Int.mul_comm u b] at p ⊢
    rw [Int.fdiv_eq_ediv_of_nonneg _ (Int.le_of_lt p)]
/-- an exact quotient, as a pair -/
def spQuo : Sp := fun vs H Q _ => ∃ p1 p2 t b u d, vs = [.ref p1, .ref p2] ∧ Pr H p1 t b ∧ Pr H p2 u d ∧ 0 < b ∧ 0 < d ∧ u ≠ 0 ∧ Sm 120 t ∧ Sm 120 b ∧ Sm 120 u ∧ Sm 120 d ∧
  ∀ p H', Same H H' → H p = none → Pr H' p (lo (qT t b u d) (qB t b u d)) (lb (qT t b u d) (qB t b u d)) → Q (.ref p) H'
/-- how often it goes, and what is left -/
def spParts : Sp := fun vs H Q _ => ∃ p1 p2 t b u d, vs = [.ref p1, .ref p2] ∧ Pr H p1 t b ∧ Pr H p2 u d ∧ 0 < b ∧ 0 < d ∧ u ≠ 0 ∧ Sm 120 t ∧ Sm 120 b ∧ Sm 120 u ∧ Sm 120 d ∧
  ∀ p r H', Same H H' → H' p = some (.tup [.int (kF t b u d), .ref r]) → Pr H' r (lo (rT t b u d (kF t b u d)) (b * d)) (lb (rT t b u d (kF t b u d)) (b * d)) → Q (.ref p) H'
def spDivided (C : Addr) : Sp := fun vs H Q _ => ∃ x y p1 p2 t b u d, vs = [x, y, .ref p1, .ref p2] ∧ NumV C H x t b ∧ NumV C H y u d ∧ ((∃ a, x = .ref a) ∨ ∃ a, y = .ref a) ∧ Pr H p1 t b ∧ Pr H p2 u d ∧ 0 < b ∧ 0 < d ∧ u ≠ 0 ∧ Sm 120 t ∧ Sm 120 b ∧ Sm 120 u ∧ Sm 120 d ∧
  ∀ H', Same H H' → Q (.bl true) H'
def spPairQ : Sp := fun vs H Q _ => ∃ p1 p2 t b u d, vs = [.ref p1, .ref p2] ∧ Pr H p1 t b ∧ Pr H p2 u d ∧ Low t b ∧ Low u d ∧ u ≠ 0 ∧ Sm 120 t ∧ Sm 120 b ∧ Sm 120 u ∧ Sm 120 d ∧ ∀ H', Same H H' → Q (.bl true) H'
/-- x // y, one of them at least a Ratio -/
theorem divI {C N : Addr} {H : Hp} {Q : VK} {E E' : XK} {x y : V} {t b u d : Int} (r : NumV C H x t b) (n : NumV C H y u d) (or : (∃ a, x = .ref a) ∨ ∃ a, y = .ref a) (b0 : 0 < b) (d0 : 0 < d) (u0 : u ≠ 0) (st : Sm 120 t) (sb : Sm 120 b) (su : Sm 120 u) (sd : Sm 120 d)
    (k : ∀ H', Same H H' → Q (.int (kF t b u d)) H') : rOpL C (spFdiv C N) E x y H Q ∨ rOpR C (spRfdiv C N) E' x y H Q := by
  have TT := fun {i : Int} (h : Sm 120 i) => sm_mono h (by decide : 120 ≤ 1000)
  rcases r with ⟨a, rfl, dx, e⟩ | ⟨rfl, rfl⟩
  · exact .inl ⟨⟨a, dx, _, rfl, e⟩, n.intOr, a, y, t, b, u, d, rfl, ⟨dx, e⟩, n, b0, d0, TT st, TT sb, TT su, TT sd, fun _ => k, fun z => absurd z u0⟩
  · rcases n with ⟨a, rfl, dx, e⟩ | ⟨rfl, rfl⟩
    · exact .inr ⟨⟨t, rfl⟩, ⟨a, dx, _, rfl, e⟩, a, u, d, t, rfl, ⟨dx, e⟩, d0, TT su, TT sd, TT st, fun _ => k, fun z => absurd z u0⟩
    · rcases or with ⟨a, z⟩ | ⟨a, z⟩ <;> cases z
/-- x % y -/
theorem modI {C N : Addr} {H : Hp} {Q : VK} {E E' : XK} {x y : V} {t b u d : Int} (r : NumV C H x t b) (n : NumV C H y u d) (or : (∃ a, x = .ref a) ∨ ∃ a, y = .ref a) (b0 : 0 < b) (d0 : 0 < d) (u0 : u ≠ 0) (st : Sm 120 t) (sb : Sm 120 b) (su : Sm 120 u) (sd : Sm 120 d)
    (k : NewR C H Q (lo (rT t b u d (kF t b u d)) (b * d)) (lb (rT t b u d (kF t b u d)) (b * d))) : rOpL C (spMod C N) E x y H Q ∨ rOpR C (spRmod C N) E' x y H Q := by
  rcases r with ⟨a, rfl, dx, e⟩ | ⟨rfl, rfl⟩
  · exact .inl ⟨⟨a, dx, _, rfl, e⟩, n.intOr, a, y, t, b, u, d, rfl, ⟨dx, e⟩, n, b0, d0, st, sb, su, sd, fun _ => k, fun z => absurd z u0⟩
  · rcases n with ⟨a, rfl, dx, e⟩ | ⟨rfl, rfl⟩
    · exact .inr ⟨⟨t, rfl⟩, ⟨a, dx, _, rfl, e⟩, a, u, d, t, rfl, ⟨dx, e⟩, d0, su, sd, st, fun _ => k, fun z => absurd z u0⟩
    · rcases or with ⟨a, z⟩ | ⟨a, z⟩ <;> cases z
theorem rT_small {t b u d k : Int} (st : Sm 120 t) (sb : Sm 120 b) (su : Sm 120 u) (sd : Sm 120 d) (sk : Sm 240 k) : Sm 500 (rT t b u d k) := by
  unfold rT
  exact sm_mono (sm_sub (sm_mono (sm_mul st sd) (by decide : 120 + 120 ≤ 480)) (sm_mul (sm_mul sk su) sb)) (by decide)
theorem kF_small {t b u d : Int} (st : Sm 120 t) (sd : Sm 120 d) : Sm 240 (kF t b u d) := sm_fdiv (sm_mul st sd)
theorem log_sm {i : Int} {n : Nat} (h : Sm n i) (n0 : 0 < n) (l : n ≤ 1900) : i.natAbs.log2 < 1920 := by
  have := PySem.Flt.log2_lt_of n0 h
  omega
/-- what stands but for the tables -/
theorem PenAt.keepN {H H' : Hp} {p c : Addr} {ns : List Int} {a g : Int} (W : PenAt H p c ns a g) (k : ExtN H H') : PenAt H' p c ns a g := ⟨k _ _ W.pn (fun _ z => by cases z), k _ _ W.cs (fun _ z => by cases z), W.la, W.lb, W.ln⟩
end RR
set_option maxHeartbeats 4000000
namespace RR
open PySem PySem.Spec PyProof.Rows L2 LamX
section
variable {P : Program} {w : World} {K : PySem.W.Frag} {mg : Str → Option Value} {base : Heap} {k : Nat} {f : Addr} {g : Sp}
/-- okG, the def's code object told -/
theorem okGC {x qual : Str} {st : Stmt} {fd : FuncData} {N ps : List Str} (F : Fun K x qual st f fd) (S : FnScope N ps (defScope st)) (hb : Binds K fd ps []) (len : ∀ vs H Q E, g vs H Q E → vs.length = ps.length)
    (body : ∀ (cdv : Value), fd.code = cdv → ∀ (A : Around) (out : List Env) (s : Shared) (H : Hp) (vs : List V) (Q : VK) (E : XK), Room k (A.deeper (envOfC qual (defScope st) s.heap.objs.size f cdv)) → Free (A.deeper (envOfC qual (defScope st) s.heap.objs.size f cdv)) → g vs H Q E →
      ∃ t, PSs (cxOf CX0 P w K mg base N qual (defScope st) f cdv A out s H E).nox (defBody st) t ∧ t { nx := fun _ H' => Q .non H', rt := Q } (start N vs) H) : FnG P w K mg base CX0 (k + 1) f g := by
  obtain ⟨oc, od, kV, doc, pm, an, cdv, ct, osl, rfl, lk, hcd⟩ := F.ex
  intro A out s H us vs Q E hr hfree e0 r hg
  have hl : vs.length = ps.length := len _ _ _ _ hg
  have kin : K.In s.heap := e0.mod.kin.keeps fun b o e => (e0.bs b o e).1
  have lim : s.heap.NoLimit := e0.mod.nolimit.keeps fun b o e => (e0.bs b o e).1
  have hu : (us ++ []).length = ps.length := by rw [List.append_nil, ← r.length]; exact hl
  have bind0 := hb s us kin hu
  rw [List.append_nil] at bind0
  have hkind : ∀ y ∈ ps.zip us, (defScope st).names.lookup y.1 = some .local ∨ ((defScope st).names.lookup y.1 = some .cell ∧ ((cellsFrom (s.heap.objs.size + 1) (defScope st).names []).lookup y.1).isSome = true) := by
    rintro ⟨n, v⟩ hy
    rcases S.par n (List.of_mem_zip hy).1 with q | q
    · exact .inl q
    · exact .inr ⟨q, PySem.W.cellsFrom_some _ _ _ (.inl q)⟩
  refine codeAny_call_function hr.depth (kin _ _ lk) rfl S.co S.gen rfl (PySem.W.codeRec_of kin hcd) (bind0 _ _ _ _ ?_)
  refine wpAny_newFunctionEnv_cells S.kind hkind fun env he s1 xx => ?_
  subst he
  refine ⟨lim.keeps xx.toInCall.keep, codeAny_func ?_⟩
  obtain ⟨t, ht, hq⟩ := body cdv rfl A out s H vs Q E (hr.deeper _) (free_deeper _ hfree) hg
  have I : Inv (cxOf CX0 P w K mg base N qual (defScope st) f cdv A out s H E) [] (start N vs) H s1 := inv_start S hr.hd e0 hl r xx
  refine wpAny_mono (ht.nox.run [] s1 (start N vs) H _ I hq) (fun fl s' hs => ?_) fun e s' hs => hs
  match fl, hs with
  | .ret u, ⟨v, σ', H', J, rv, q⟩ => exact ⟨v, H', J.os, J.bare, J.base, J.hok, rv, q⟩
  | .next, ⟨σ', H', J, q⟩ => exact ⟨V.non, H', J.os, J.bare, J.base, J.hok, rfl, q⟩
  | .brk, ⟨_, _, _, q⟩ => exact q.elim
  | .cont, ⟨_, _, _, q⟩ => exact q.elim
end
/-- what 'heard' makes of a lambda: a list of its value, or ('none',) where it raises N -/
def TTh (N : Addr) : (XK → Hp → VK → Prop) → Hp → VK → Prop := fun tl H Q => ∀ H0, Same H H0 → ∃ (E' : XK) (Q' : VK), tl E' H0 Q' ∧
  (∀ v H1, Q' v H1 → ∀ q H2, Same H1 H2 → H2 q = some (.lst [v]) → Q (.ref q) H2) ∧
  (∀ cls d H1, E' cls d H1 → cls = .ref N ∧ d = none ∧ ∀ q H2, Same H1 H2 → H2 q = some (.tup [.str "none"]) → Q (.ref q) H2)
theorem Tabs.same {T : List (Addr × Str)} {H H' : Hp} (t : Tabs T H) (s : Same H H') : Tabs T H' := t.ext s
theorem extN_same {H H1 H2 : Hp} (e : ExtN H H1) (s : Same H1 H2) : ExtN H H2 := fun b o h n => s b o (e b o h n)
/-- all eight are refused -/
def spRefused (T : List (Addr × Str)) : Sp := fun vs H Q _ => ∃ p t b, vs = [.ref p] ∧ Pr H p t b ∧ Low t b ∧ Sm 120 t ∧ Sm 120 b ∧ Tabs T H ∧ ∀ H', ExtN H H' → Tabs T H' → Q (.bl true) H'
def spLawT (K : PySem.W.Frag) (P : Addr) : Sp := fun vs H Q _ => ∃ (a : Addr) (ns : List Int), vs = [.ref a] ∧ SqL K H a (ns.map V.int) ∧ ns.length ≤ 63 ∧ H P = some (.tbl #[]) ∧ ∀ H', Q (.bl true) H'
/-- a lambda that raises N, its heap grown -/
theorem heardNo {N : Addr} {tl : (XK → Hp → VK → Prop)} {H : Hp} {Q : VK} (h : ∀ H0, Same H H0 → tl (fun cls d H' => cls = .ref N ∧ d = none ∧ Same H0 H') H0 (fun _ _ => False)) (k : ∀ q H2, Same H H2 → H2 q = some (.tup [.str "none"]) → Q (.ref q) H2) : TTh N tl H Q :=
  fun H0 s0 => ⟨_, _, h H0 s0, fun _ _ z => z.elim, fun _ _ _ ⟨a, b, c⟩ => ⟨a, b, fun q H2 s e => k q H2 (s0.trans (c.trans s)) e⟩⟩
theorem tabs_mut {T : List (Addr × Str)} {H : Hp} {L : Addr} {xs ys : List V} (t : Tabs T H) (e : H L = some (.lst xs)) : Tabs T (upd H L (.lst ys)) := by
  intro p hp
  obtain ⟨ps, h1, h2, h3⟩ := t p hp
  refine ⟨ps, (upd_ne (ne_of h1 e fun z => by cases z)).trans h1, h2, fun pos cv hc => ?_⟩
  obtain ⟨c, e1, e2⟩ := h3 pos cv hc
  exact ⟨c, e1, (upd_ne (ne_of e2 e fun z => by unfold CodeO at z; cases z)).trans e2⟩
/-- a list of ('none',) -/
def NoneL (H : Hp) (rs : List V) : Prop := ∀ r ∈ rs, ∃ z, r = .ref z ∧ H z = some (.tup [.str "none"])
theorem NoneL.dp {K : PySem.W.Frag} {H : Hp} : ∀ {rs : List V}, NoneL H rs → DpAll K H rs (List.replicate rs.length (.tuple [.str "none"]))
  | [], _ => .nil
  | r :: rs, h => by
    obtain ⟨z, rfl, e⟩ := h r (List.mem_cons_self)
    exact .cons (.tup (SqT.of e) (.cons (.str _) .nil)) (NoneL.dp fun x hx => h x (List.mem_cons_of_mem _ hx))
structure RefSt (C : Addr) (T : List (Addr × Str)) (H0 H : Hp) (p a1 L q a0 : Addr) (t b : Int) (n : Nat) : Prop where
  ex : ExtN H0 H
  l0 : H0 L = none
  ls : ∃ rs, H L = some (.lst rs) ∧ NoneL H rs ∧ rs.length = n
  ra : RatAt C H a1 t b
  pr : Pr H p t b
  tq : H q = some (.tup [.int 0, .ref a0])
  rz : RatAt C H a0 0 1
  tb : Tabs T H
theorem RatAt.ext {C x : Addr} {H H' : Hp} {t b : Int} (h : RatAt C H x t b) (s : ExtN H H') : RatAt C H' x t b := h.elim fun dx e => ⟨dx, s _ _ e fun _ z => by cases z⟩
theorem RefSt.step {C : Addr} {T : List (Addr × Str)} {H0 H H2 : Hp} {p a1 L q a0 q1 : Addr} {t b : Int} {n : Nat} (S : RefSt C T H0 H p a1 L q a0 t b n) (e : ExtN H H2) (t2 : Tabs T H2) (z : H2 q1 = some (.tup [.str "none"])) :
    ∃ rs, H2 L = some (.lst rs) ∧ rs.length = n ∧ RefSt C T H0 (upd H2 L (.lst (rs ++ [.ref q1]))) p a1 L q a0 t b (n + 1) := by
  obtain ⟨rs, h1, h2, h3⟩ := S.ls
  have hL : H2 L = some (.lst rs) := e _ _ h1 fun _ y => by cases y
  have kept : ∀ {c : Addr} {o : HO}, H2 c = some o → (∀ xs, o ≠ .lst xs) → upd H2 L (.lst (rs ++ [.ref q1])) c = some o := fun ec no => (upd_ne (ne_of ec hL fun y => no _ y)).trans ec
  have rat : ∀ {c : Addr} {i j : Int}, RatAt C H c i j → RatAt C (upd H2 L (.lst (rs ++ [.ref q1]))) c i j := fun r => by
    obtain ⟨dx, ed⟩ := r.ext e
    exact ⟨dx, kept ed fun _ y => by cases y⟩
  refine ⟨rs, hL, h3, ?_, S.l0, ⟨_, upd_same, ?_, by rw [List.length_append, h3]; rfl⟩, rat S.ra, kept (e _ _ S.pr (fun _ y => by cases y)) (fun _ y => by cases y), kept (e _ _ S.tq (fun _ y => by cases y)) (fun _ y => by cases y), rat S.rz, tabs_mut t2 hL⟩
  · intro c o ec no
    rw [upd_ne (ne_of_none ec S.l0)]
    exact e _ _ (S.ex _ _ ec no) no
  · intro r hr
    rcases List.mem_append.mp hr with hr | hr
    · obtain ⟨y, rfl, ey⟩ := h2 r hr
      exact ⟨y, rfl, kept (e _ _ ey fun _ v => by cases v) fun _ v => by cases v⟩
    · rw [List.mem_singleton.mp hr]
      exact ⟨q1, rfl, kept z fun _ v => by cases v⟩
/-- the heap behind the making of a Ratio -/
theorem newR_heap {C x dx : Addr} {H : Hp} {t b : Int} (nx : H x = none) (nd : H dx = none) : ∃ H', H' = upd (upd (upd (upd H dx (.own x)) x (.ins C dx [])) x (.ins C dx [("top", .int (lo t b))])) x (.ins C dx (rfs (lo t b) (lb t b))) ∧ Same H H' ∧ RatAt C H' x (lo t b) (lb t b) := by
  refine ⟨_, rfl, fun c o e => ?_, dx, upd_same⟩
  have h1 : c ≠ x := ne_of_none e nx
  rw [upd_ne h1, upd_ne h1, upd_ne h1, upd_ne (ne_of_none e nd)]
  exact e
theorem tabs_keep {T : List (Addr × Str)} {H H' : Hp} {p : Addr} {xs : List V} (t : Tabs T H) (e : H p = some (.lst xs)) (k : Keep p H H') : Tabs T H' := by
  intro r hr
  obtain ⟨ps, h1, h2, h3⟩ := t r hr
  refine ⟨ps, k _ _ h1 (ne_of h1 e fun z => by cases z), h2, fun pos cv hc => ?_⟩
  obtain ⟨c, e1, e2⟩ := h3 pos cv hc
  exact ⟨c, e1, k _ _ e2 (ne_of e2 e fun z => by unfold CodeO at z; cases z)⟩
end RR
set_option maxHeartbeats 4000000
namespace RR
open PySem PySem.Spec PyProof.Rows L2 LamX
/-! ### the endless ratio, 1/0, on one side at least -/
/-- two numbers, one of them endless -/
structure OneEnd (t b u d : Int) : Prop where
  b0 : 0 ≤ b
  d0 : 0 ≤ d
  or : b = 0 ∨ d = 0
  tb : b = 0 → t = 1
  ud : d = 0 → u = 1
  st : Sm 1000 t
  sb : Sm 1000 b
  su : Sm 1000 u
  sd : Sm 1000 d
/-- x and y, one of them endless: what comes if P holds (Q'), and N where it doesn't -/
def spEnd2 (C N : Addr) (P : Int → Int → Int → Int → Prop) (R : Addr → Int → Int → Int → Int → Hp → VK → Prop) : Sp := fun vs H Q E => ∃ x y t b u d, vs = [.ref x, y] ∧ RatAt C H x t b ∧ NumV C H y u d ∧ OneEnd t b u d ∧
  (P t b u d → R x t b u d H Q) ∧ (¬ P t b u d → ∀ H', Same H H' → E (.ref N) none H')
def pAdd (t b u d : Int) : Prop := 0 ≤ t ∧ 0 ≤ u
def pMul (t b u d : Int) : Prop := 0 < t ∧ 0 < u
def pNo (t b u d : Int) : Prop := False
/-- when a quotient is told: the endless one by a number above 0, or a number by the endless one -/
def pOver (t b u d : Int) : Prop := (b = 0 ∧ d ≠ 0 ∧ 0 < u) ∨ (b ≠ 0 ∧ d = 0)
def rEnd (C : Addr) (_ : Addr) (_ _ _ _ : Int) (H : Hp) (Q : VK) : Prop := NewR C H Q 1 0
def rOver (C : Addr) (_ : Addr) (_ b _ _ : Int) (H : Hp) (Q : VK) : Prop := if b = 0 then NewR C H Q 1 0 else NewR C H Q 0 1
def spEnd0 (C : Addr) : Sp := fun vs H Q _ => vs = [] ∧ NewR C H Q 1 0
def spNegE (C N : Addr) : Sp := fun vs H Q E => ∃ x, vs = [.ref x] ∧ RatAt C H x 1 0 ∧ E (.ref N) none H
def spAbsE (C : Addr) : Sp := fun vs H Q _ => ∃ x, vs = [.ref x] ∧ RatAt C H x 1 0 ∧ ∀ H', Same H H' → Q (.ref x) H'
def spLe (C : Addr) : Sp := fun vs H Q _ => ∃ x y t b u d, vs = [.ref x, y] ∧ RatAt C H x t b ∧ NumV C H y u d ∧ Sm 1000 t ∧ Sm 1000 b ∧ Sm 1000 u ∧ Sm 1000 d ∧ ∀ H', Same H H' → Q (.bl (decide (t * d ≤ u * b))) H'
theorem OneEnd.swap {t b u d : Int} (o : OneEnd t b u d) : OneEnd u d t b := ⟨o.d0, o.b0, o.or.symm, o.ud, o.tb, o.su, o.sd, o.st, o.sb⟩
/-- i op x, x endless -/
def spRefE (C N : Addr) (P : Int → Prop) : Sp := fun vs H Q E => ∃ x u, vs = [.ref x, .int u] ∧ RatAt C H x 1 0 ∧ Sm 1000 u ∧ (P u → NewR C H Q 1 0) ∧ (¬ P u → ∀ H', Same H H' → E (.ref N) none H')
theorem oneEnd_int {u : Int} (h : Sm 1000 u) : OneEnd 1 0 u 1 := ⟨by decide, by decide, .inl rfl, fun _ => rfl, (fun z => by cases z), sm_1 (by decide), sm_0, h, sm_1 (by decide)⟩
end RR
set_option maxHeartbeats 4000000
namespace RR
open PySem PySem.Spec PyProof.Rows L2 LamX
/-- x op y, one of them endless, one of them at least a Ratio (P': what P says of an int on the left and the endless ratio) -/
theorem endI {C N : Addr} {H : Hp} {Q : VK} {E : XK} {P : Int → Int → Int → Int → Prop} {P' : Int → Prop} (hP : ∀ t, P' t ↔ P t 1 1 0) {x y : V} {t b u d : Int} (r : NumV C H x t b) (n : NumV C H y u d) (or : (∃ a, x = .ref a) ∨ ∃ a, y = .ref a) (o : OneEnd t b u d)
    (k : P t b u d → NewR C H Q 1 0) (ke : ¬ P t b u d → ∀ H', Same H H' → E (.ref N) none H') : rOpL C (spEnd2 C N P (rEnd C)) E x y H Q ∨ rOpR C (spRefE C N P') E x y H Q := by
  rcases r with ⟨a, rfl, dx, e⟩ | ⟨rfl, rfl⟩
  · exact .inl ⟨⟨a, dx, _, rfl, e⟩, n.intOr, a, y, t, b, u, d, rfl, ⟨dx, e⟩, n, o, k, ke⟩
  · have d0 : d = 0 := o.or.resolve_left (by decide)
    have u1 := o.ud d0
    subst d0 u1
    rcases n with ⟨a, rfl, dx, e⟩ | ⟨rfl, z⟩
    · exact .inr ⟨⟨t, rfl⟩, ⟨a, dx, _, rfl, e⟩, a, t, rfl, ⟨dx, e⟩, o.st, fun z => k ((hP t).mp z), fun z => ke fun y => z ((hP t).mpr y)⟩
    · cases z
theorem pAdd_int (t : Int) : 0 ≤ t ↔ pAdd t 1 1 0 := ⟨fun h => ⟨h, by decide⟩, fun h => h.1⟩
theorem pMul_int (t : Int) : 0 < t ↔ pMul t 1 1 0 := ⟨fun h => ⟨h, by decide⟩, fun h => h.1⟩
theorem pNo_int (t : Int) : False ↔ pNo t 1 1 0 := ⟨fun h => h.elim, fun h => h.elim⟩
/-- a lambda that tells a value, its heap grown -/
theorem heardYes {N : Addr} {tl : (XK → Hp → VK → Prop)} {H : Hp} {Q : VK} {G : V → Hp → Prop} (h : ∀ H0, Same H H0 → tl (fun _ _ _ => False) H0 (fun v H' => Same H0 H' ∧ G v H')) (k : ∀ v q H1 H2, Same H H1 → G v H1 → Same H1 H2 → H2 q = some (.lst [v]) → Q (.ref q) H2) : TTh N tl H Q :=
  fun H0 s0 => ⟨_, _, h H0 s0, fun v H1 ⟨s1, g⟩ q H2 s2 e => k v q H1 H2 (s0.trans s1) g s2 e, fun _ _ _ z => z.elim⟩
/-- one of both, as it comes -/
theorem heardBoth {N : Addr} {tl : (XK → Hp → VK → Prop)} {H : Hp} {Q : VK} {G : V → Hp → Prop} {B : Prop} (h : ∀ H0, Same H H0 → tl (fun cls d H' => cls = .ref N ∧ d = none ∧ Same H0 H' ∧ ¬ B) H0 (fun v H' => Same H0 H' ∧ G v H' ∧ B))
    (k : B → ∀ v q H1 H2, Same H H1 → G v H1 → Same H1 H2 → H2 q = some (.lst [v]) → Q (.ref q) H2) (k' : ¬ B → ∀ q H2, Same H H2 → H2 q = some (.tup [.str "none"]) → Q (.ref q) H2) : TTh N tl H Q :=
  fun H0 s0 => ⟨_, _, h H0 s0, fun v H1 ⟨s1, g, y⟩ q H2 s2 e => k y v q H1 H2 (s0.trans s1) g s2 e, fun _ _ _ ⟨a, b, c, y⟩ => ⟨a, b, fun q H2 s e => k' y q H2 (s0.trans (c.trans s)) e⟩⟩
/-- left op= right by the number of the deed -/
def pWay (w t b u d : Int) : Prop := (w = 0 ∧ pAdd t b u d) ∨ (w = 2 ∧ pMul t b u d)
def spPlaceE (C N : Addr) : Sp := fun vs H Q E => ∃ x y w t b u d, vs = [x, y, .int w] ∧ NumV C H x t b ∧ NumV C H y u d ∧ ((∃ a, x = .ref a) ∨ ∃ a, y = .ref a) ∧ OneEnd t b u d ∧ 0 ≤ w ∧ w ≤ 4 ∧
  (pWay w t b u d → NewR C H Q 1 0) ∧ (¬ pWay w t b u d → ∀ H', Same H H' → E (.ref N) none H')
/-- what 'told' makes of what was heard -/
def spTold (C : Addr) : Sp := fun vs H Q _ => (∃ q, vs = [.ref q] ∧ H q = some (.tup [.str "none"]) ∧ Q (.ref q) H) ∨
  ∃ q a t b, vs = [.ref q] ∧ H q = some (.lst [.ref a]) ∧ RatAt C H a t b ∧ ∀ p, H p = none → Q (.ref p) (upd H p (.tup [.int t, .int b]))
/-- a pair, in lowest terms or endless, made -/
def spMadeE (C : Addr) : Sp := fun vs H Q _ => ∃ p t b, vs = [.ref p] ∧ Pr H p t b ∧ (Low t b ∨ t = 1 ∧ b = 0) ∧ Sm 5000 t ∧ Sm 5000 b ∧ NewR C H Q t b
end RR
set_option maxHeartbeats 4000000
namespace RR
open PySem PySem.Spec PyProof.Rows L2 LamX
/-! ### lists of what was heard, and of what is told of it -/
/-- what came of a deed: a ratio's top and bottom, or nothing -/
abbrev Deed := Option (Int × Int)
def HeardIs (C : Addr) (H : Hp) (x : V) (o : Deed) : Prop := match o with
  | none => ∃ z, x = .ref z ∧ H z = some (.tup [.str "none"])
  | some (t, b) => ∃ z a, x = .ref z ∧ H z = some (.lst [.ref a]) ∧ RatAt C H a t b
def ToldIs (H : Hp) (x : V) (o : Deed) : Prop := match o with
  | none => ∃ z, x = .ref z ∧ H z = some (.tup [.str "none"])
  | some (t, b) => ∃ z, x = .ref z ∧ H z = some (.tup [.int t, .int b])
inductive Each (R : V → Deed → Prop) : List V → List Deed → Prop
  | nil : Each R [] []
  | cons {x : V} {o : Deed} {xs : List V} {os : List Deed} : R x o → Each R xs os → Each R (x :: xs) (o :: os)
theorem Each.imp {R S : V → Deed → Prop} (h : ∀ x o, R x o → S x o) : ∀ {xs : List V} {os : List Deed}, Each R xs os → Each S xs os
  | _, _, .nil => .nil
  | _, _, .cons r e => .cons (h _ _ r) (e.imp h)
theorem Each.app {R : V → Deed → Prop} {ys : List V} {ps : List Deed} (h : Each R ys ps) : ∀ {xs : List V} {os : List Deed}, Each R xs os → Each R (xs ++ ys) (os ++ ps)
  | _, _, .nil => h
  | _, _, .cons r e => .cons r (Each.app h e)
theorem Each.one {R : V → Deed → Prop} {x : V} {o : Deed} (h : R x o) : Each R [x] [o] := .cons h .nil
theorem Each.len {R : V → Deed → Prop} : ∀ {xs : List V} {os : List Deed}, Each R xs os → xs.length = os.length
  | _, _, .nil => rfl
  | _, _, .cons _ e => congrArg Nat.succ e.len
theorem Each.get {R : V → Deed → Prop} : ∀ {xs : List V} {os : List Deed}, Each R xs os → ∀ (i : Nat) (x : V), xs[i]? = some x → ∃ o, os[i]? = some o ∧ R x o
  | _, _, .nil, i, x, h => by cases h
  | _, _, .cons (o := o) r e, 0, x, h => by
    cases h
    exact ⟨o, rfl, r⟩
  | _, _, .cons r e, i + 1, x, h => e.get i x h
def toldD (o : Deed) : PyData := match o with
  | none => .tuple [.str "none"]
  | some (t, b) => .tuple [.int t, .int b]
theorem ToldIs.dp {K : PySem.W.Frag} {H : Hp} {x : V} {o : Deed} (h : ToldIs H x o) : Dp K H x (toldD o) := by
  match o, h with
  | none, ⟨z, e, h1⟩ => subst e; exact .tup (SqT.of h1) (.cons (.str _) .nil)
  | some (t, b), ⟨z, e, h1⟩ => subst e; exact .tup (SqT.of h1) (.cons (.int _) (.cons (.int _) .nil))
theorem Each.dp {K : PySem.W.Frag} {H : Hp} : ∀ {xs : List V} {os : List Deed}, Each (ToldIs H) xs os → DpAll K H xs (os.map toldD)
  | _, _, .nil => .nil
  | _, _, .cons r e => .cons r.dp e.dp
theorem lay_told : ∀ os : List Deed, PyData.canLayAll0 (os.map toldD) = true
  | [] => rfl
  | o :: r => by
    show (PyData.canLay0 (toldD o) && PyData.canLayAll0 (r.map toldD)) = true
    rw [lay_told r]
    rcases o with _ | ⟨t, b⟩ <;> simp [toldD, PyData.canLay0, PyData.canLayAll0] <;> decide +kernel
theorem dep_told : ∀ os : List Deed, PyData.depthAll (os.map toldD) ≤ 1
  | [] => by decide
  | o :: r => by
    show max (PyData.depth (toldD o)) (PyData.depthAll (r.map toldD)) ≤ 1
    have h1 := dep_told r
    have h2 : PyData.depth (toldD o) = 1 := by rcases o with _ | ⟨t, b⟩ <;> rfl
    omega
theorem shaped_told (os : List Deed) : SeqAt.shaped (.list (os.map toldD)) = true := by
  unfold SeqAt.shaped
  rw [Bool.and_eq_true]
  refine ⟨lay_told os, ?_⟩
  show decide (PyData.depthAll (os.map toldD) + 1 ≤ 64) = true
  have := dep_told os
  exact decide_eq_true (by omega)
theorem eqv_told1 (o : Deed) : PyData.eqv (toldD o) (toldD o) = true := by
  rcases o with _ | ⟨t, b⟩
  · decide +kernel
  · show PyData.eqv (.tuple [.int t, .int b]) (.tuple [.int t, .int b]) = true
    simp [PyData.eqv, PyData.eqvAll]
theorem eqv_toldA : ∀ os : List Deed, PyData.eqvAll (os.map toldD) (os.map toldD) = true
  | [] => by simp [PyData.eqvAll]
  | o :: r => by
    rw [List.map_cons]
    show PyData.eqvAll (toldD o :: r.map toldD) (toldD o :: r.map toldD) = true
    rw [PyData.eqvAll, eqv_told1, eqv_toldA r]
    rfl
theorem eqv_told (os : List Deed) : PyData.eqv (.list (os.map toldD)) (.list (os.map toldD)) = true := by
  rw [PyData.eqv, eqv_toldA]
theorem HeardIs.keep {C : Addr} {H H' : Hp} {x : V} {o : Deed} (h : HeardIs C H x o) (k : ∀ z u, H z = some u → (∀ ps, u ≠ .tbl ps) → H' z = some u) : HeardIs C H' x o := by
  match o, h with
  | none, ⟨z, e, h⟩ => exact ⟨z, e, k _ _ h fun _ y => by cases y⟩
  | some (t, b), ⟨z, a, e, h, dx, r⟩ => exact ⟨z, a, e, k _ _ h (fun _ y => by cases y), dx, k _ _ r fun _ y => by cases y⟩
theorem ToldIs.keep {H H' : Hp} {x : V} {o : Deed} (h : ToldIs H x o) (k : Same H H') : ToldIs H' x o := by
  match o, h with
  | none, ⟨z, e, h⟩ => exact ⟨z, e, k _ _ h⟩
  | some (t, b), ⟨z, e, h⟩ => exact ⟨z, e, k _ _ h⟩
theorem NumV.ext {C : Addr} {H H' : Hp} {v : V} {t b : Int} (h : NumV C H v t b) (s : ExtN H H') : NumV C H' v t b := by
  rcases h with ⟨a, e, dx, r⟩ | h
  · exact .inl ⟨a, e, dx, s _ _ r fun _ y => by cases y⟩
  · exact .inr h
/-- a lambda, whatever comes of it -/
theorem heardO {C N : Addr} {tl : (XK → Hp → VK → Prop)} {H : Hp} {Q : VK} {o : Deed}
    (h : ∀ H0, Same H H0 → tl (fun cls d H' => cls = .ref N ∧ d = none ∧ Same H0 H' ∧ o = none) H0 (fun v H' => Same H0 H' ∧ ∃ a t b, v = .ref a ∧ RatAt C H' a t b ∧ o = some (t, b)))
    (k : ∀ q H2, Same H H2 → HeardIs C H2 (.ref q) o → Q (.ref q) H2) : TTh N tl H Q :=
  fun H0 s0 => ⟨_, _, h H0 s0, fun v H1 ⟨s1, a, t, b, e, r, y⟩ q H2 s2 e2 => by
      subst e y
      exact k q H2 (s0.trans (s1.trans s2)) ⟨q, a, rfl, e2, r.same s2⟩,
    fun _ _ _ ⟨e1, e2, s1, y⟩ => ⟨e1, e2, fun q H2 s2 e => by
      subst y
      exact k q H2 (s0.trans (s1.trans s2)) ⟨q, rfl, e⟩⟩⟩
/-- under way: the list L of what was heard so far -/
structure DSt (C : Addr) (T : List (Addr × Str)) (H0 H : Hp) (L : Addr) (x y : V) (t b u d : Int) (os : List Deed) : Prop where
  ex : ExtN H0 H
  l0 : ∀ u, H0 L = some u → ∃ ps, u = .tbl ps
  ls : ∃ xs, H L = some (.lst xs) ∧ Each (HeardIs C H) xs os
  nx : NumV C H x t b
  ny : NumV C H y u d
  tb : Tabs T H
theorem heard_noL {C : Addr} {H : Hp} {L : Addr} {xs : List V} {os : List Deed} (h : Each (HeardIs C H) xs os) (hL : H L = some (.lst xs)) {v : V} {o : Deed} (r : HeardIs C H v o) : v ≠ .ref L := by
  intro e
  match o, r with
  | none, ⟨z, e1, h1⟩ =>
    cases e1.symm.trans e
    rw [hL] at h1
    cases h1
  | some (t, b), ⟨z, a, e1, h1, dx, r⟩ =>
    cases e1.symm.trans e
    rw [hL] at h1
    cases h1
    cases h with
    | cons r2 _ =>
      rename_i o2 _ _
      match o2, r2 with
      | none, ⟨z, e2, h2⟩ =>
        cases e2
        rw [r] at h2
        cases h2
      | some (t, b), ⟨z, a, e2, h2, _⟩ =>
        cases e2
        rw [r] at h2
        cases h2
theorem Each.imp' {R S : V → Deed → Prop} : ∀ {xs : List V} {os : List Deed}, (∀ x o, x ∈ xs → R x o → S x o) → Each R xs os → Each S xs os
  | _, _, _, .nil => .nil
  | _, _, h, .cons r e => .cons (h _ _ (List.mem_cons_self) r) (e.imp' fun x o hx => h x o (List.mem_cons_of_mem _ hx))
theorem DSt.step {C : Addr} {T : List (Addr × Str)} {H0 H H2 : Hp} {L q1 : Addr} {x y : V} {t b u d : Int} {os : List Deed} {o : Deed} (S : DSt C T H0 H L x y t b u d os) (e : ExtN H H2) (t2 : Tabs T H2) (z : HeardIs C H2 (.ref q1) o) :
    ∃ xs, H2 L = some (.lst xs) ∧ xs.length = os.length ∧ DSt C T H0 (upd H2 L (.lst (xs ++ [.ref q1]))) L x y t b u d (os ++ [o]) := by
  obtain ⟨xs, h1, h2⟩ := S.ls
  have hL : H2 L = some (.lst xs) := e _ _ h1 fun _ y => by cases y
  have kept : ∀ {c : Addr} {o : HO}, H2 c = some o → c ≠ L → upd H2 L (.lst (xs ++ [.ref q1])) c = some o := fun ec no => (upd_ne no).trans ec
  have num : ∀ {v : V} {i j : Int}, NumV C H v i j → NumV C (upd H2 L (.lst (xs ++ [.ref q1]))) v i j := fun r => by
    rcases r.ext e with ⟨a, e1, dx, r1⟩ | r1
    · exact .inl ⟨a, e1, dx, kept r1 (ne_of r1 hL fun y => by cases y)⟩
    · exact .inr r1
  have hear : ∀ {v : V} {o : Deed}, HeardIs C H2 v o → v ≠ .ref L → HeardIs C (upd H2 L (.lst (xs ++ [.ref q1]))) v o := by
    intro v o h n
    match o, h with
    | none, ⟨z, e1, h⟩ => exact ⟨z, e1, kept h fun y => n (by rw [e1, y])⟩
    | some (t, b), ⟨z, a, e1, h, dx, r⟩ => exact ⟨z, a, e1, kept h (fun y => n (by rw [e1, y])), dx, kept r (ne_of r hL fun y => by cases y)⟩
  have hx2 : Each (HeardIs C H2) xs os := h2.imp fun v o r => r.keep e
  refine ⟨xs, hL, h2.len, ?_, S.l0, ⟨_, upd_same, ?_⟩, num S.nx, num S.ny, tabs_mut t2 hL⟩
  · intro c u ec no
    rw [upd_ne fun y => by
      subst y
      obtain ⟨ps, y⟩ := S.l0 _ ec
      exact no _ y]
    exact e _ _ (S.ex _ _ ec no) no
  · exact Each.app (.one (hear z (heard_noL hx2 hL z))) (hx2.imp fun v o r => hear r (heard_noL hx2 hL r))
theorem DSt.start {C : Addr} {T : List (Addr × Str)} {H0 H : Hp} {L q1 : Addr} {x y : V} {t b u d : Int} {o : Deed} (e : ExtN H0 H) (tb : Tabs T H) (nL : H L = none) (z : HeardIs C H (.ref q1) o) (nx : NumV C H0 x t b) (ny : NumV C H0 y u d) :
    DSt C T H0 (upd H L (.lst [.ref q1])) L x y t b u d [o] := by
  refine ⟨extN_same e (Same.new nL), fun u h => ?_, ⟨_, upd_same, .one (z.keep fun c u h _ => hp_new h nL)⟩, (nx.ext e).same (Same.new nL), (ny.ext e).same (Same.new nL), Tabs.same tb (Same.new nL)⟩
  cases u with
  | tbl ps => exact ⟨ps, rfl⟩
  | _ =>
    have := e _ _ h fun _ y => by cases y
    rw [nL] at this
    cases this
theorem told_app {H : Hp} {D : Addr} {ys : List V} {y : V} {os : List Deed} {i : Nat} {o : Deed} (e : H D = some (.lst ys)) (h : Each (ToldIs H) ys (os.take i)) (ho : os[i]? = some o) (r : ToldIs H y o) :
    Each (ToldIs (upd H D (.lst (ys ++ [y])))) (ys ++ [y]) (os.take (i + 1)) := by
  have k : ∀ v o, ToldIs H v o → ToldIs (upd H D (.lst (ys ++ [y]))) v o := by
    intro v o h
    match o, h with
    | none, ⟨z, e1, h⟩ => exact ⟨z, e1, (upd_ne (ne_of h e fun y => by cases y)).trans h⟩
    | some (t, b), ⟨z, e1, h⟩ => exact ⟨z, e1, (upd_ne (ne_of h e fun y => by cases y)).trans h⟩
  have i1 : i < os.length := (List.getElem?_eq_some_iff.mp ho).1
  have e2 : os.take (i + 1) = os.take i ++ [o] := by
    rw [List.take_succ, ho]
    rfl
  rw [e2]
  exact Each.app (.one (k _ _ r)) (h.imp k)
/-! ### what is due -/
instance (t b u d : Int) : Decidable (pAdd t b u d) := by unfold pAdd; infer_instance
instance (t b u d : Int) : Decidable (pMul t b u d) := by unfold pMul; infer_instance
def plusO (t b u d : Int) : Deed := if pAdd t b u d then some (1, 0) else none
def timesO (t b u d : Int) : Deed := if pMul t b u d then some (1, 0) else none
def overO (t b u d : Int) : Deed := if b = 0 then (if d ≠ 0 ∧ 0 < u then some (1, 0) else none) else (if d = 0 then some (0, 1) else none)
def dues (t b u d : Int) (r : Bool) : List Deed :=
  [plusO t b u d, none, timesO t b u d, none, none, plusO t b u d, none, timesO t b u d, none, none] ++ (if r then [overO t b u d] else [])

/-- left, right, one of them endless: all that comes of both -/
def spDeeds (C : Addr) (T : List (Addr × Str)) : Sp := fun vs H Q _ => ∃ x y t b u d r, vs = [x, y] ∧ NumV C H x t b ∧ NumV C H y u d ∧ ((∃ a, x = .ref a) ∨ ∃ a, y = .ref a) ∧ OneEnd t b u d ∧ (r = true ↔ ∃ a, x = .ref a) ∧ Tabs T H ∧
  ∀ q H', ExtN H H' → Tabs T H' → (∃ ys, H' q = some (.lst ys) ∧ Each (ToldIs H') ys (dues t b u d r)) → Q (.ref q) H'
def spDue : Sp := fun vs H Q _ => ∃ p1 p2 t b u d r, vs = [.ref p1, .ref p2, .bl r] ∧ Pr H p1 t b ∧ Pr H p2 u d ∧ OneEnd t b u d ∧
  ∀ q H', Same H H' → (∃ ys, H' q = some (.lst ys) ∧ Each (ToldIs H') ys (dues t b u d r)) → Q (.ref q) H'
end RR
namespace RR
theorem overO_no {t b u d : Int} (o : OneEnd t b u d) (z : ¬ pOver t b u d) : overO t b u d = none := by
  unfold overO pOver at *
  split
  · rename_i y
    exact if_neg fun q => z (.inl ⟨y, q.1, q.2⟩)
  · rename_i y
    exact if_neg fun q => z (.inr ⟨y, q⟩)
theorem overO_1 {t b u d : Int} (y : b = 0) (z : pOver t b u d) : overO t b u d = some (1, 0) := by
  unfold overO pOver at *
  rw [if_pos y]
  rcases z with z | z
  · exact if_pos ⟨z.2.1, z.2.2⟩
  · exact absurd y z.1
theorem overO_2 {t b u d : Int} (y : ¬ b = 0) (z : pOver t b u d) : overO t b u d = some (0, 1) := by
  unfold overO pOver at *
  rw [if_neg y]
  rcases z with z | z
  · exact absurd z.1 y
  · exact if_pos z.2
end RR
namespace RR
theorem dues_f (t b u d : Int) : dues t b u d false = [plusO t b u d, none, timesO t b u d, none, none, plusO t b u d, none, timesO t b u d, none, none] := rfl
theorem dues_t (t b u d : Int) : dues t b u d true = [plusO t b u d, none, timesO t b u d, none, none, plusO t b u d, none, timesO t b u d, none, none, overO t b u d] := rfl
end RR
namespace RR
theorem no_dec {p : Prop} [Decidable p] (h : ¬ decide p = true) : ¬ p := fun y => h (decide_eq_true y)
end RR
namespace RR
open PySem PySem.Spec PyProof.Rows L2 LamX
/-- in lowest terms, or endless -/
def LowE (t b : Int) : Prop := Low t b ∨ t = 1 ∧ b = 0
def spPairE (T : List (Addr × Str)) : Sp := fun vs H Q _ => ∃ p1 p2 t b u d, vs = [.ref p1, .ref p2] ∧ Pr H p1 t b ∧ Pr H p2 u d ∧ OneEnd t b u d ∧ LowE t b ∧ LowE u d ∧ Tabs T H ∧ ∀ H', ExtN H H' → Tabs T H' → Q (.bl true) H'
theorem Pr.ext {H H' : Hp} {p : Addr} {t b : Int} (h : Pr H p t b) (s : ExtN H H') : Pr H' p t b := s _ _ h fun _ z => by cases z
theorem ExtN.same {H H1 H2 : Hp} (e : ExtN H H1) (s : Same H1 H2) : ExtN H H2 := extN_same e s
theorem one_end1 {t b : Int} (l : Low t b) (st : Sm 100 t) (sb : Sm 100 b) : OneEnd t b 1 0 := ⟨Int.le_of_lt l.1, by decide, .inr rfl, fun z => absurd z (Int.ne_of_gt l.1), fun _ => rfl, sm_mono st (by decide), sm_mono sb (by decide), sm_1 (by decide), sm_0⟩
end RR
namespace RR
open PySem PySem.Spec PyProof.Rows L2 LamX
/-- one Ratio is the other -/
def spEqR (C : Addr) : Sp := fun vs H Q _ => ∃ x t b y u d, vs = [.ref x, .ref y] ∧ RatAt C H x t b ∧ RatAt C H y u d ∧ Q (.bl (decide (t = u ∧ b = d))) H
theorem eqL {C : Addr} {H : Hp} {Q : VK} {E : XK} {a c : Addr} {t b u d : Int} (r : RatAt C H a t b) (n : RatAt C H c u d) (k : Q (.bl (decide (t = u ∧ b = d))) H) : rOpL C (spEqR C) E (.ref a) (.ref c) H Q := by
  obtain ⟨dx, e⟩ := r
  obtain ⟨dy, f⟩ := n
  exact ⟨⟨a, dx, _, rfl, e⟩, .inr ⟨c, dy, _, rfl, f⟩, a, t, b, c, u, d, rfl, ⟨dx, e⟩, ⟨dy, f⟩, k⟩
end RR
namespace RR
open PySem PySem.Spec PyProof.Rows L2 LamX
theorem oneEnd_self : OneEnd 1 0 1 0 := ⟨by decide, by decide, .inl rfl, fun _ => rfl, fun _ => rfl, sm_1 (by decide), sm_0, sm_1 (by decide), sm_0⟩
def spLawE (K : PySem.W.Frag) (T : List (Addr × Str)) : Sp := fun vs H Q _ => ∃ (a : Addr) (ns : List Int), vs = [.ref a] ∧ SqL K H a (ns.map V.int) ∧ ns.length ≤ 63 ∧ Tabs T H ∧ ∀ H', Q (.bl true) H'
end RR
set_option maxHeartbeats 4000000
namespace RR
open PySem PySem.Spec PyProof.Rows L2 LamX
section
variable {X : Cx} {CX : CXT} {C f : Addr} {n : Nat} {g : Sp} {E : XK}
/-- a def's call at a place further in -/
theorem run_in {A : Around} {pins : List (Addr × Obj)} {σ : L2.St} {H : Hp} {s : Shared} {Q : VK} {us : List Value} {vs : List V} (F : FnR X.prog X.w X.K X.mg X.base CX n f g) (hr : Room n A) (e0 : Env0 X.prog X.w X.K X.mg X.base A X.stack s H) (hx : Passes CX X E) (I : Inv X pins σ H s) (r : Vals vs us) (h : g vs H Q E) :
    wpAny (model X.prog X.w) A (call (.ref f) us) (EP X pins σ Q) X.xe s := by
  refine wpAny_call (codeAny_mono (F A X.stack s H us vs Q E hr e0 r h) fun rr s' hq => ?_)
  cases rr with
  | error e => exact hx pins σ H s e s' I hq
  | ok fl =>
    cases fl with
    | ret u => exact I.after hq
    | next => exact False.elim hq
    | brk => exact False.elim hq
    | cont => exact False.elim hq
/-- str(x), x an instance with its own text -/
def rStrO (C : Addr) (g : Sp) (E : XK) : List V → Hp → VK → Prop := fun xs H Q => (∃ a dx fs, xs = [.ref a] ∧ H a = some (.ins C dx fs)) ∧ g xs H (fun v H' => ∃ z, v = .str z ∧ Q v H') E
theorem str_back {pins : List (Addr × Obj)} {σ : L2.St} {Q : VK} {v : Value} {s' : Shared} (h : EP X pins σ (fun v H' => ∃ z, v = .str z ∧ Q v H') v s') : PySem.W.StrBack (EP X pins σ Q) v s' := by
  obtain ⟨x, H', I', rx, z, rfl, q⟩ := h
  obtain ⟨t, rfl⟩ := rx
  exact ⟨.str z, H', I', ⟨t, rfl⟩, q⟩
theorem call_strO (hs : PySem.W.findIn X.K (.ref C) "__str__" = some (some (.ref f))) (hf : PySem.W.isFn X.K (.ref f) = true) (F : FnR X.prog X.w X.K X.mg X.base CX n f g) (hr : Room (n + 2) X.A) (hx : Passes CX X E) : CallR X (.type "str") (rStrO C g E) := by
  intro pins s σ H xs us Q I rv h
  obtain ⟨⟨a, dx, fs, rfl, ea⟩, q⟩ := h
  obtain ⟨u, rfl, ru⟩ := rv.one
  obtain rfl : u = .ref a := ru
  obtain ⟨od, J⟩ := inst_of I ea
  have hr2 : Room n X.A.in1.in1 := (show Room (n + 1) X.A.in1 from Room.in1 hr).in1
  exact PySem.W.kso_call hr2.units0 I.kIn J hs hf (wpAny_mono (run_in (us := [.ref a]) (vs := [.ref a]) F hr2 I.env0.in1.in1 hx I (.cons rfl .nil) q) (fun v s' z => str_back z) fun _ _ z => z)
/-- repr(x), likewise -/
theorem call_reprO (hs : PySem.W.findIn X.K (.ref C) "__repr__" = some (some (.ref f))) (hf : PySem.W.isFn X.K (.ref f) = true) (F : FnR X.prog X.w X.K X.mg X.base CX n f g) (hr : Room (n + 1) X.A) (hx : Passes CX X E) : CallR X (.builtin "repr") (rStrO C g E) := by
  intro pins s σ H xs us Q I rv h
  obtain ⟨⟨a, dx, fs, rfl, ea⟩, q⟩ := h
  obtain ⟨u, rfl, ru⟩ := rv.one
  obtain rfl : u = .ref a := ru
  obtain ⟨od, J⟩ := inst_of I ea
  obtain ⟨m, fr⟩ := I.fr
  have hr2 : Room n X.A.in1 := Room.in1 hr
  exact PySem.W.repr_K hr2.units0 fr I.ok.mod.kin J hs hf (wpAny_mono (run_in (us := [.ref a]) (vs := [.ref a]) F hr2 I.env0.in1 hx I (.cons rfl .nil) q) (fun v s' z => str_back z) fun _ _ z => z)
/-- {x}, likewise -/
def tFmtO (C : Addr) (g : Sp) (E : XK) (te : TE) : TE := fun σ H Q => te σ H fun x H1 => rStrO C g E [x] H1 Q
theorem pe_fmtO {e : Expr} {te : TE} {pos : Pos} (hs : PySem.W.findIn X.K (.ref C) "__str__" = some (some (.ref f))) (hf : PySem.W.isFn X.K (.ref f) = true) (hfm : PySem.W.findIn X.K (.ref C) "__format__" = some (some (.builtin "object.__format__"))) (hm : PySem.W.mroIn X.K C (.type "object") = some true)
    (F : FnR X.prog X.w X.K X.mg X.base CX n f g) (hr : Room (n + 1) X.A) (hx : Passes CX X E) (he : PE X e te) : PE X (.FormattedValue e (-1) none pos) (tFmtO C g E te) := by
  refine ⟨fun pins s σ H Q I h => ?_⟩
  refine wpAny_FormattedValue_plain (thn (he.run pins s σ H _ I h) fun v s1 hv => ?_)
  obtain ⟨x, H1, I1, r1, ⟨a, dx, fs, ex, ea⟩, q⟩ := hv
  cases ex
  obtain rfl : v = .ref a := r1
  obtain ⟨od, J⟩ := inst_of I1 ea
  have hr2 : Room n X.A.in1 := Room.in1 hr
  have I2 := I1.tok (s1.toks + 1)
  exact PySem.W.kfo_fieldS hr2.units0 I1.kIn J hfm hm hs hf (wpAny_mono (run_in (us := [.ref a]) (vs := [.ref a]) F hr2 I2.env0.in1 hx I2 (.cons rfl .nil) q) (fun v s' z => str_back z) fun _ _ z => z)
/-- x == y, x an instance of C, y of any kind that comes not ahead of it -/
def rCmpY (K : PySem.W.Frag) (C : Addr) (g : Sp) (E : XK) : R2 := fun x y H Q => ∃ a dx fs t, x = .ref a ∧ H a = some (.ins C dx fs) ∧ TyX K H y t ∧ PySem.W.notFirst K C t = true ∧ g [x, y] H Q E
theorem op_cmpY {cop : CmpOp} (hop : ∀ a b, compareOp cop a b = richCompare cop a b) (hs : PySem.W.findIn X.K (.ref C) (cmpInfo cop).2.1 = some (some (.ref f))) (hf : PySem.W.isFn X.K (.ref f) = true) (F : FnR X.prog X.w X.K X.mg X.base CX n f g) (hr : Room n X.A) (hx : Passes CX X E) :
    OpR X (compareOp cop) (rCmpY X.K C g E) := by
  intro pins s σ H x y v u Q I rx ry h
  obtain ⟨a, dx, fs, t, rfl, ea, ty, hn, q⟩ := h
  obtain rfl : v = .ref a := rx
  obtain ⟨od, J⟩ := inst_of I ea
  obtain ⟨m, fr⟩ := I.fr
  obtain ⟨P, Z, hP, _⟩ := kit_of I ry ty
  rw [hop]
  refine PySem.W.cmp_K hr.units0 fr I.ok.mod.kin J (Z.ty _ _ I.kIn hP) hn hs hf ?_
  refine wpAny_mono (wpAny_call (run_fnR (us := [.ref a, u]) (vs := [.ref a, y]) F hr hx I (.cons rfl (.cons ry .nil)) q)) ?_ fun _ _ z => z
  rintro z s2 ⟨z', H2, I2, rz, qz⟩
  exact back_of rz ⟨z', H2, I2, rz, qz⟩
/-- x != y, likewise, by the class's == -/
def rNeY (K : PySem.W.Frag) (C : Addr) (g : Sp) (E : XK) : R2 := fun x y H Q => ∃ a dx fs t, x = .ref a ∧ H a = some (.ins C dx fs) ∧ TyX K H y t ∧ PySem.W.notFirst K C t = true ∧ g [x, y] H (fun v H' => ∃ b, v = .bl b ∧ Q (.bl (!b)) H') E
theorem ifBoundB {M : Model} {A : Around} {Er : Value → Shared → Prop} {s : Shared} {K : PySem.W.Frag} {x C : Addr} {ox : Obj} {od : Option Obj} {name : Str} {id : String} {args : List Value} {Q : Option Value → Shared → Prop} (Xk : K.In s.heap) (I : PySem.W.InstAt s.heap x ox C od)
    (hs : PySem.W.findIn K (.ref C) name = some (some (.builtin id))) (hb : ∀ self, bindSpecial (.builtin id) self = pure (.builtin id, [self])) (h : wpAny M A (call (.builtin id) (.ref x :: args)) (fun v => Q (some v)) Er s) : wpAny M A (callSpecialIfBound? (.ref x) name args) Q Er s := by
  simp only [callSpecialIfBound?, bindSpecialIfBound?]
  refine wpAny_holding (wpAny_bind (wpAny_bind (wpAny_bind (I.type.here ((PySem.W.looks_findIn Xk hs).here ?_)))))
  refine wpAny_bind (wpAny_askSetting (wpAny_ite ?_))
  have fin : wpAny M A (call (.builtin id) ([.ref x] ++ args) >>= fun v => pure (some v)) Q Er s := wpAny_bind (wpAny_mono h (fun v s' h' => wpAny_pure h') fun _ _ h' => h')
  split
  · exact wpAny_bind ((PySem.W.Looks.of_pure (hb _)).here (wpAny_pure (by exact fin)))
  · exact wpAny_tryCatch (wpAny_bind ((PySem.W.Looks.of_pure (hb _)).here (wpAny_pure (by exact fin))))
theorem ne_try {A : Around} {Er : Value → Shared → Prop} {s : Shared} {x C f : Addr} {K : PySem.W.Frag} {ox : Obj} {od : Option Obj} {b : Value} {P : Program} {w : World} {Q : Value → Shared → Prop} (Xk : K.In s.heap) (I : PySem.W.InstAt s.heap x ox C od)
    (hne : PySem.W.findIn K (.ref C) "__ne__" = some (some (.builtin "object.__ne__"))) (hm : PySem.W.mroIn K C (.type "object") = some true) (hs : PySem.W.findIn K (.ref C) "__eq__" = some (some (.ref f))) (hf : PySem.W.isFn K (.ref f) = true) (hu : A.in1.units < cLine)
    (h : wpAny (model P w) A.in1 (call (.ref f) [.ref x, b]) (fun v s' => ∃ c, v = .bool c ∧ Q (.bool (!c)) s') Er s) : wpAny (model P w) A (tryCompare (.ref x) "__ne__" b) (fun r s' => ∃ v, r = some v ∧ Q v s') Er s := by
  unfold tryCompare
  refine wpAny_bind (ifBoundB Xk I hne PySem.F.cmp_object.ne.bind ?_)
  refine wpAny_call (codeAny_call_builtin PySem.F.cmp_object.ne.plain PySem.F.cmpEntry_ne (PySem.W.check_slot (i := "object.__ne__") (owner := "object") (n := "__ne__") (by decide +kernel) (by decide +kernel) (I.type.andThen (PySem.W.looks_mroIn Xk hm)) (PySem.F.cmpArgs_ne _ _) ?_))
  unfold Builtin.«object.__ne__»
  refine wpAny_bind (m := slotArgs "__ne__" 1 _) (wpAny_pure ?_)
  refine wpAny_bind (m := cRoomFor _ _) (wpAny_cRoomFor hu ?_)
  refine wpAny_bind (m := callSpecialIfBound? (.ref x) (Str.ofString "__eq__") _) (PySem.W.ifBound_K Xk I hs hf (wpAny_mono h (fun r s' hr => ?_) fun _ _ y => y))
  obtain ⟨c, rfl, q⟩ := hr
  refine wpAny_bind (wpAny_pure ?_)
  exact wpAny_pure (wpAny_pure ⟨_, rfl, q⟩)
theorem op_neY (hne : PySem.W.findIn X.K (.ref C) "__ne__" = some (some (.builtin "object.__ne__"))) (hm : PySem.W.mroIn X.K C (.type "object") = some true) (hs : PySem.W.findIn X.K (.ref C) "__eq__" = some (some (.ref f))) (hf : PySem.W.isFn X.K (.ref f) = true)
    (F : FnR X.prog X.w X.K X.mg X.base CX n f g) (hr : Room (n + 1) X.A) (hx : Passes CX X E) : OpR X (compareOp .NotEq) (rNeY X.K C g E) := by
  intro pins s σ H x y v u Q I rx ry h
  obtain ⟨a, dx, fs, t, rfl, ea, ty, hn, q⟩ := h
  obtain rfl : v = .ref a := rx
  obtain ⟨od, J⟩ := inst_of I ea
  obtain ⟨m, fr⟩ := I.fr
  obtain ⟨P, Z, hP, _⟩ := kit_of I ry ty
  have Xk := I.kIn
  have hr2 : Room n X.A.in1 := Room.in1 hr
  have one : wpAny (model X.prog X.w) X.A (tryCompare (.ref a) "__ne__" u) (fun r s' => ∃ v, r = some v ∧ EP X pins σ Q v s') X.xe s := by
    refine ne_try Xk J hne hm hs hf hr2.units0 (wpAny_mono (run_in (us := [.ref a, u]) (vs := [.ref a, y]) F hr2 I.env0.in1 hx I (.cons rfl (.cons ry .nil)) q) ?_ fun _ _ z => z)
    rintro z s2 ⟨z', H2, I2, rz, b, rfl, qz⟩
    obtain rfl : z = .bool b := rz
    exact ⟨b, rfl, .bl (!b), H2, I2, rfl, qz⟩
  have hb : PySem.W.Looks (model X.prog X.w) s.heap (typeOf u) t := Z.ty _ _ I.kIn hP
  show wpAny _ _ (richCompare .NotEq (.ref a) u) _ _ _
  unfold richCompare
  simp only [oneThing_ref]
  refine wpAny_holding (wpAny_bind (wpAny_cRoomFor hr.units0 ?_))
  refine wpAny_bind (J.type.here (wpAny_bind (hb.here ?_)))
  split
  · rename_i q
    have e : PySem.W.subIn X.K t (.ref C) = some false := by
      rcases Bool.or_eq_true_iff.mp hn with e | e
      · rw [beq_iff_eq.mp e] at q; simp at q
      · exact beq_iff_eq.mp e
    refine wpAny_bind ((PySem.W.looks_subIn Xk e).here ?_)
    simp only [Bool.false_eq_true, if_false]
    refine wpAny_bind (wpAny_mono one (fun r s' z => ?_) fun _ _ e => e)
    obtain ⟨v, rfl, hq⟩ := z
    exact wpAny_pure hq
  · refine wpAny_bind (wpAny_pure ?_)
    simp only [Bool.false_eq_true, if_false]
    refine wpAny_bind (wpAny_mono one (fun r s' z => ?_) fun _ _ e => e)
    obtain ⟨v, rfl, hq⟩ := z
    exact wpAny_pure hq
/-! ### a caught exception, with a field -/
def rIsX2 (K : PySem.W.Frag) : List V → Hp → VK → Prop := fun xs H Q =>
  ∃ (a D : Addr) (d : Option Addr) (c : V) (cv : Value) (b : Bool), xs = [.ref a, c] ∧ ExcC K D ∧ H a = some (HeldX (.ref D) d a) ∧ (d = none ∨ ∃ dd fs, d = some dd ∧ H dd = some (.xd fs)) ∧ (∀ u, RelV c u → u = cv) ∧ PySem.W.kitOne K (.ref D) cv = some b ∧ Q (.bl b) H
theorem held_inst {pins : List (Addr × Obj)} {σ : L2.St} {H : Hp} {s : Shared} {a D : Addr} {d : Option Addr} (I : Inv X pins σ H s) (ha : H a = some (HeldX (.ref D) d a)) (hd : d = none ∨ ∃ dd fs, d = some dd ∧ H dd = some (.xd fs)) : ∃ oe od, PySem.W.InstAt s.heap a oe D od := by
  obtain ⟨⟨oe, he, hz, vs, hdt⟩, _, _⟩ := I.hok a _ ha
  rcases hd with rfl | ⟨dd, fs, rfl, ed⟩
  · refine ⟨oe, none, he, hz.1, by unfold PySem.W.notCls; rw [hdt] <;> rfl, ?_⟩
    rw [hz.2]
    trivial
  · obtain ⟨mA, hns, hr⟩ := (show ObjOk X.prog X.w H s.heap dd (.xd fs) from I.hok dd _ ed)
    obtain ⟨od, ho, hl⟩ := lookIn_ns hns
    exact ⟨oe, some od, he, hz.1, by unfold PySem.W.notCls; rw [hdt] <;> rfl, by rw [hz.2]; exact ho⟩
theorem call_isX2 : CallR X (.builtin "isinstance") (rIsX2 X.K) := by
  rintro pins s σ H xs us Q I r ⟨a, D, d, c, cv, b, rfl, T, ha, hd, hcv, e, q⟩
  match us, r with
  | [_, _], .cons rx (.cons rc .nil) =>
    cases rx
    obtain rfl := hcv _ rc
    obtain ⟨oe, od, J⟩ := held_inst I ha hd
    have hcl : (PySem.W.clsIn X.K D).isSome = true := by
      obtain ⟨cd, hc, _⟩ := PySem.W.any_some T.hd
      rw [hc]
      rfl
    exact PySem.W.kia_one (PySem.W.kitx_exc hcl T.hg T.hk T.hs T.ha T.hn T.ht T.hm) I.kIn J e (fun z => nomatch z) fun tk => ⟨.bl b, H, I.kept (t' := tk) fun _ _ z => z, rfl, q⟩
/-- x.f, x such an exception -/
def tAtX (K : PySem.W.Frag) (f : Str) (te : TE) : TE := fun σ H Q => te σ H fun x H1 => ∃ (a D dd : Addr) (v : V), x = .ref a ∧ ExcC K D ∧ PySem.W.findIn K (.ref D) f = some none ∧ H1 a = some (HeldX (.ref D) (some dd) a) ∧ H1 dd = some (.xd [(f, v)]) ∧ Q v H1
theorem pe_atX {f : Str} {e : Expr} {te : TE} {pos : Pos} (he : PE X e te) (hb : attributeBase e f X.env (eval e X.env) = eval e X.env := by rfl) : PE X (.Attribute e f pos) (tAtX X.K f te) := by
  refine ⟨fun pins s σ H Q I h => ?_⟩
  refine attr_of hb (thn (he.run pins s σ H _ I h) fun u s1 hh => ?_)
  obtain ⟨x, H1, I1, rx, a, D, dd, v, rfl, T, hno, ha, hd, q⟩ := hh
  obtain rfl : u = Value.ref a := rx
  obtain ⟨⟨oe, he, hz, vs, hdt⟩, _, _⟩ := I1.hok a _ ha
  obtain ⟨mA, hns, hr⟩ := (show ObjOk X.prog X.w H1 s1.heap dd (.xd [(f, v)]) from I1.hok dd _ hd)
  obtain ⟨od, ho, hl⟩ := lookIn_ns hns
  have l : List.lookup f [(f, v)] = some v := by simp [List.lookup]
  obtain ⟨u, hu, ru⟩ := RelO.some_of (v := v) (o := mA f) (by rw [← l]; exact hr f)
  have J : PySem.W.InstAt s1.heap a oe D (some od) := ⟨he, hz.1, by unfold PySem.W.notCls; rw [hdt] <;> rfl, by rw [hz.2]; exact ho⟩
  exact HandSPX.exc_get I1.kIn J T.hg T.hk T.hs (PySem.W.findObj_own T.hd hno rfl (by rw [hl, hu])) (handed_of ru) ⟨v, H1, I1.tok _, ru, q⟩
end
end RR
namespace PySem
namespace LowA
open PySem.W PySem.Calls PyProof.Rows PySem.HandSPX
/-! ### the text of __init__ -/
def iA (p1 p2 : Pos) : Arguments := { posonlyargs := [], args := [{ arg := "self", annotation := none, pos := p1 }, { arg := "at", annotation := none, pos := p2 }], vararg := none, kwonlyargs := [], kw_defaults := [], kwarg := none, defaults := [] }
def iB (q1 q2 q3 q4 : Pos) : List Stmt := [.Assign [.Attribute (.Name "self" q1) "at" q2] (.Name "at" q3) q4]
def iS : Scope := { kind := .function, names := [(PySem.Str.ofString "self", .local), (PySem.Str.ofString "at", .local)], isGenerator := false, isCoroutine := false, more := [] }
/-- what the written part says of Low, at C, and of its __init__, at fI -/
structure LowTxt (K : Frag) (mg : Str → Option Value) (cn qn : Str) (C fI : Addr) : Prop where
  gC : mg cn = some (.ref C)
  cls : ∃ nm q N bs bm sn sub ab col dd k0 k1 k2 k3 k5, K.lookup C = some (excClassObj nm q C N bs bm true sn sub ab col dd k0 k1 k2 k3 k5 "ValueError.__new__") ∧ refsVE bm = true
  sa : findIn K (.ref C) "__setattr__" = some (some (.builtin "object.__setattr__"))
  ga : findIn K (.ref C) "__getattribute__" = some (some (.builtin "BaseException.__getattribute__"))
  gg : findIn K (.ref C) "__getattr__" = some none
  noN : findIn K (.ref C) "at" = some none
  iC : findIn K (.ref C) "__init__" = some (some (.ref fI))
  tC : typeIn K (.ref fI) = some (.type "function")
  kC : keepIn K (.ref C) = true
  exC : subIn K (.ref C) (.type "BaseException") = some true
  tyC : typeIn K (.ref C) = some (.type "type")
  hdC : hasDictIn K C = true
  te : exmOne K (.ref C) (.ref C) = some true
  fn : ∃ (oc : Value) (od : Option Addr) (doc pm : Value) (an : Option Addr) (cdv ct : Value) (osl : Array (Option Value)) (p1 p2 q1 q2 q3 q4 : Pos),
    K.lookup fI = some ⟨oc, od, .func (fnOf "__init__" qn (iA p1 p2) (iB q1 q2 q3 q4) iS .none .none doc pm an cdv ct), osl⟩ ∧ codeIn K cdv qn = true
theorem one_size (v : Value) : [v].length ≤ sizeLine := by
  rw [sizeLine_eq]
  exact (by decide : 1 ≤ 16777216)
theorem kept_but {K : Frag} {h h' : Heap} {x : Addr} (X : K.In h) (hx : K.lookup x = none) (k : ∀ b o, b ≠ x → h.get? b = some o → h'.get? b = some o) : K.In h' := fun a o e =>
  k a o (fun z => by rw [z, hx] at e; cases e) (X a o e)
theorem ldC {M : Model} {s : Shared} {name : Str} {scope : Scope} {L a : Addr} {cd : Value} {m : Str → Option Value} {x : Str} {pos : Pos} {v : Value} {Q : Value → Shared → Prop} {A : Around} {E : Value → Shared → Prop} (hn : s.heap.Ns L m) (hv : m x = some v) (h : Q v s)
    (hk : scope.kind = .function := by rfl) (hl : (envOfC name scope L a cd).kindOf x = some .local := by rfl) (hd : (x == ("__debug__" : Str)) = false := by decide) :
    wpAny M A (eval (.Name x pos) (envOfC name scope L a cd)) Q E s := wpAny_Name (wpAny_loadName_local hk hl hn hv h) hd
/-- what __init__ leaves of a fresh exception at x -/
structure InitEnd (h h' : Heap) (x C dx t1 : Addr) (v : Value) : Prop where
  keep : ∀ b o, b ≠ x → h.get? b = some o → h'.get? b = some o
  obj : h'.get? x = some { cls := .ref C, dict := some dx, data := .fields #[.ref t1, .none, .none, .none, .bool false, .none] }
  dbig : h.objs.size ≤ dx
  dne : dx ≠ x
  ns : h'.Ns1 dx (fun y => if y = "at" then some v else none)
/-- a made Low -/
structure OwnMade (h h' : Heap) (e C d : Addr) (v : Value) : Prop where
  keep : ∀ b o, h.get? b = some o → h'.get? b = some o
  new : h.objs.size ≤ e
  obj : ∃ oe vs, h'.get? e = some oe ∧ oe.cls = .ref C ∧ oe.dict = some d ∧ oe.data = .fields vs ∧ vs[1]? = some .none
  dbig : h.objs.size ≤ d
  dne : d ≠ e
  ns : h'.Ns1 d (fun y => if y = "at" then some v else none)
section
variable {prog : Program} {w : World} {A : Around} {E : Value → Shared → Prop} {R : Result → Shared → Prop} {s : Shared} {K : Frag} {mg : Str → Option Value} {C fI : Addr} {cn qn : Str}
theorem low_init (T : LowTxt K mg cn qn C fI) {x t0 : Addr} {v : Value} (X : K.In s.heap) (hlim : s.heap.NoLimit) (hx : s.heap.get? x = some (excO C t0)) (hnx : K.lookup x = none) (hroom : A.depth < recursionLimit)
    (hq : ∀ h' tk dx, InitEnd s.heap h' x C dx t0 v → R (.ok (.ret .none)) { s with heap := h', toks := tk }) :
    codeAny (model prog w) A (.call (.ref fI) ⟨[.ref x, v], []⟩) R s := by
  obtain ⟨oc, od, doc, pm, an, cdv, ct, osl, p1, p2, q1, q2, q3, q4, ho, hcd⟩ := T.fn
  obtain ⟨nm, q, N, bs, bm, sn, sub, ab, col, dd, k0, k1, k2, k3, k5, hC, hbm⟩ := T.cls
  have hcl : clsIn K C = some { name := nm, bases := bs, mro := .ref C :: bm, ns := N, qualname := q, hasDict := true, slotNames := sn, subclasses := sub, abstract := ab, collection := col, hasDel := false } := by unfold clsIn; rw [hC] <;> rfl
  refine Att.call_fn (binds := [("self", .ref x), ("at", v)]) X hlim ho hcd hroom (BindsTo.of_eq (by first | rfl | with_unfolding_all rfl)) (by first | rfl | decide | with_unfolding_all rfl) (fun s₁ IC => ?_) rfl rfl rfl
  obtain ⟨h₁, tk₁, rfl⟩ := IC.toInCall.same
  have k : ∀ b o, s.heap.get? b = some o → h₁.get? b = some o := IC.toInCall.keep
  have hn := IC.toInCall.ns
  have hxL : s.heap.objs.size ≠ x := Nat.ne_of_gt (Heap.lt_size hx)
  have X₁ : K.In h₁ := X.keeps k
  have hx₁ := k _ _ hx
  -- self.by = by
  show wpAny _ _ (execs _ _) _ _ _
  refine wpAny_execs_cons (plainObj_wpAny_Assign_Attribute ?_)
  refine ldC (v := v) hn (by first | rfl | with_unfolding_all rfl | kernel_rfl) (ldC (v := .ref x) hn (by first | rfl | with_unfolding_all rfl | kernel_rfl) ?_)
  refine set_plain X₁ (ox := excO C t0) (od := none) ⟨hx₁, rfl, rfl, trivial⟩ T.sa ?_
  refine exc_osa X₁ hx₁ hcl (show refsVE (.ref C :: bm) = true from hbm) rfl T.noN (fun h₃ tk₃ dx k₃ dn dne hx₃ hn₃ => ?_)
  show wpAny _ _ (execs _ _) _ _ _
  have z : s.heap.objs.size < h₁.objs.size := hn.lt
  exact wpAny_execs_nil (hq h₃ tk₃ dx ⟨fun b o hb e => k₃ b o hb (k b o e), hx₃, Nat.le_of_lt (Nat.lt_of_lt_of_le z dn), dne, hn₃⟩)
theorem low_made (T : LowTxt K mg cn qn C fI) {v : Value} (X : K.In s.heap) (hlim : s.heap.NoLimit) (hroom : A.depth + 1 < recursionLimit)
    (hq : ∀ h' tk e d, OwnMade s.heap h' e C d v → R (.ok (.ret (.ref e))) { s with heap := h', toks := tk }) :
    codeAny (model prog w) A (.call (.ref C) ⟨[v], []⟩) R s := by
  obtain ⟨nm, q, N, bs, bm, sn, sub, ab, col, dd, k0, k1, k2, k3, k5, hC, hbm⟩ := T.cls
  obtain ⟨hp, g, dr, tk, os⟩ := s
  have k : ∀ b o, hp.get? b = some o → ((hp.push (kdv_tup [v])).push (excO C hp.objs.size)).get? b = some o := fun b o e => Heap.get?_push_of_some _ (Heap.get?_push_of_some _ e)
  have hget : ((hp.push (kdv_tup [v])).push (excO C hp.objs.size)).get? (hp.objs.size + 1) = some (excO C hp.objs.size) := by heap_get
  have hnx : K.lookup (hp.objs.size + 1) = none := by
    cases e : K.lookup (hp.objs.size + 1) with
    | none => rfl
    | some o =>
      have z : hp.get? (hp.objs.size + 1) = some o := X _ _ e
      exact absurd (Nat.lt_of_succ_lt (Heap.lt_size z)) (Nat.lt_irrefl _)
  refine call_own F.excBase_ValueError (fun X => refsVE_contains X bm hbm) (X _ _ hC) (looks_findIn X T.iC) (fun self => bind_fn X self T.tC) (one_size v) ?_
  refine low_init (s := ⟨(hp.push (kdv_tup [v])).push (excO C hp.objs.size), g, dr, tk, os⟩) T (X.keeps k) (hlim.keeps k) hget hnx ?_ fun h' tk' dx ⟨k', hx, dn, dne, hns⟩ => ?_
  · show A.depth + 1 < recursionLimit
    exact hroom
  · have old : ∀ b o, hp.get? b = some o → h'.get? b = some o := fun b o e => k' b o (Nat.ne_of_lt (Nat.lt_succ_of_lt (Heap.lt_size e))) (k b o e)
    have z : hp.objs.size + 1 + 1 ≤ dx := by
      first
        | (simpa only [Heap.size_push] using dn)
        | exact dn
        | (have q := dn; rw [Heap.size_push, Heap.size_push] at q; exact q)
    exact ⟨rfl, hq h' tk' (hp.objs.size + 1) dx ⟨old, Nat.le_succ _, ⟨_, _, hx, rfl, rfl, rfl, rfl⟩, Nat.le_trans (Nat.le_trans (Nat.le_succ _) (Nat.le_succ _)) z, dne, hns⟩⟩
end
end LowA
end PySem
namespace L2
open PySem PySem.Spec PyProof.Rows
theorem relO_lowA {v : V} {v' : Value} (r : RelV v v') (f : Str) : RelO (List.lookup f [(("at" : Str), v)]) (if f = "at" then some v' else none) := by
  by_cases hw : f = "at"
  · subst hw
    rw [if_pos rfl]
    have q : List.lookup ("at" : Str) [(("at" : Str), v)] = some v := by simp [List.lookup]
    rw [q]
    exact r
  · rw [if_neg hw]
    have qw : (f == ("at" : Str)) = false := by simpa using hw
    have q2 : List.lookup f [(("at" : Str), v)] = none := by simp [List.lookup, qw]
    rw [q2]
    trivial
section
variable {X : Cx} {C fI : Addr} {cn qn : Str}
/-- Low(e) -/
def tMkLowA (C : Addr) (ta : TA) : St → Hp → XK → Prop := fun σ H Q => ta σ H fun vs H1 => ∃ v, vs = [v] ∧ ∀ d, H1 d = none → Q (.ref C) (some d) (upd H1 d (.xd [(("at" : Str), v)]))
theorem pmk_lowA {a : Expr} {ta : TA} {p pos : Pos} {k : Nat} (T : PySem.LowA.LowTxt X.K X.mg cn qn C fI) (hr : Room k X.A) (ha : PA X [a] ta) (hg : Gl X cn) (hdb : (cn == ("__debug__" : Str)) = false := by decide)
    (he : starEach (a :: []) X.env = (false, eval a X.env) :: starEach [] X.env := by rfl) (hpl : (backTo pos (starEach [] X.env)).any (·.1) = false := by rfl) :
    PMk X (.Call (.Name cn p) [a] [] pos) (tMkLowA C ta) := by
  intro pins s σ H Q I h
  refine wpAny_Call_Name_kw (ld_glob I hg T.gC ?_ hdb)
  refine PySem.W.callWith_K (h₀ := X.base) I.ok.mod.kin T.kC (thn (ha.run pos pins s σ H _ I h) fun us s1 hh => ?_) he hpl
  obtain ⟨vs, H1, I1, r1, v, ev, q1⟩ := hh
  subst ev
  refine ⟨I1.kIn, ?_⟩
  cases r1 with
  | cons rv rn =>
    rename_i v' us'
    cases rn
    show wpAny _ _ (call (.ref C) [v']) _ _ _
    have hlim := I1.nolimit
    obtain ⟨hp, g, dr, tk, os⟩ := s1
    refine wpAny_call (PySem.LowA.low_made T I1.kIn hlim (by have := hr.dp; omega) fun h' tk' e d M => ?_)
    show MkP X pins σ Q (.ref e) ⟨h', g, dr, tk', os⟩
    obtain ⟨oe, fv, hoe, hc, hd, hdat, h1⟩ := M.obj
    have hns := M.ns
    obtain ⟨G', g1, g2⟩ := restrict h' fun b => decide (b ≠ e)
    have gk : ∀ b, b ≠ e → G'.get? b = h'.get? b := fun b hb => g1 b (decide_eq_true hb)
    have ge : G'.get? e = none := g2 e (by simp)
    have old : ∀ b o, hp.get? b = some o → G'.get? b = some o := fun b o q => (gk b (Nat.ne_of_lt (Nat.lt_of_lt_of_le (Heap.lt_size q) M.new))).trans (M.keep b o q)
    have ob : ObjOk X.prog X.w (upd H1 d (.xd [(("at" : Str), v)])) G' d (.xd [(("at" : Str), v)]) :=
      ⟨_, hns.at (fun o q => (gk d M.dne).trans q), fun f => relO_lowA rv f⟩
    have J : Inv X pins σ (upd H1 d (.xd [(("at" : Str), v)])) ⟨G', g, dr, tk', os⟩ := I1.laid (t' := tk') old M.dbig ob
    refine ⟨e, oe, fv, ⟨G', g, dr, tk', os⟩, _, .ref C, some d, rfl, J, fun b o q => ?_, ge, hoe, ⟨hc, hd⟩, hdat, h1, ?_, rfl, I1.bare, raises_own T.exC T.tyC, q1 d (I1.hok.fresh M.dbig)⟩
    · by_cases hb : b = e
      · have q' : G'.get? b = some o := q
        rw [hb, ge] at q'; cases q'
      · exact (gk b hb).symm.trans q
    · rw [upd_ne (Ne.symm M.dne)]
      exact I1.hok.fresh M.new
/-- raise Low(e) -/
def tRaiseLowA (C : Addr) (W : WX) (ta : TA) : TS := fun _ σ H => tMkLowA C ta σ H fun cls d H' => W cls d σ H'
theorem ps_raiseLowA {a : Expr} {ta : TA} {W : WX} {p pos pos2 : Pos} {k : Nat} (hc : X.calm = true) (T : PySem.LowA.LowTxt X.K X.mg cn qn C fI) (hr : Room k X.A) (tk : Takes X W) (ha : PA X [a] ta) (hg : Gl X cn) (hdb : (cn == ("__debug__" : Str)) = false := by decide)
    (he : starEach (a :: []) X.env = (false, eval a X.env) :: starEach [] X.env := by rfl) (hpl : (backTo pos (starEach [] X.env)).any (·.1) = false := by rfl) :
    PS X (.Raise (some (.Call (.Name cn p) [a] [] pos)) none pos2) (tRaiseLowA C W ta) := ps_raise hc tk (pmk_lowA T hr ha hg hdb he hpl)
/-- low.by, low the exception that the suite holds (at a; its class cls, its dict d) -/
def tByLowA (C : Addr) (a : Addr) (cls : Value) (d : Option Addr) (te : TE) : TE := fun σ H Q => te σ H fun x H1 => x = .ref a ∧ cls = .ref C ∧ ∃ (dd : Addr) (v : V), d = some dd ∧ H1 dd = some (.xd [(("at" : Str), v)]) ∧ Q v H1
theorem pe_byLowA {a : Addr} {oe : Obj} {cls : Value} {d : Option Addr} {pn : List (Addr × Obj)} {e : Expr} {te : TE} {pos : Pos} (T : PySem.LowA.LowTxt X.K X.mg cn qn C fI) (hz : Zc cls d oe) (hf : ∃ vs, oe.data = .fields vs) (he : PE (X.suite a ((a, oe) :: pn)) e te)
    (hb : attributeBase e "at" X.env (eval e X.env) = eval e X.env := by rfl) :
    PE (X.suite a ((a, oe) :: pn)) (.Attribute e "at" pos) (tByLowA C a cls d te) := by
  refine ⟨fun pins s σ H Q I h => ?_⟩
  refine attr_of hb (thn (he.run pins s σ H _ I h) fun u s1 hh => ?_)
  obtain ⟨x, H1, I1, rx, ex, ec, dd, v, ed, ea, q⟩ := hh
  subst ex
  obtain rfl : u = Value.ref a := rx
  subst ec
  subst ed
  obtain ⟨ha, _⟩ := I1.pin (a, oe) (List.mem_append_left _ List.mem_cons_self)
  obtain ⟨vs, hd⟩ := hf
  have hx : ObjOk X.prog X.w H1 s1.heap dd (.xd [(("at" : Str), v)]) := I1.hok dd _ ea
  obtain ⟨mA, hns, hr⟩ := hx
  obtain ⟨od, ho, hl⟩ := lookIn_ns hns
  have l : List.lookup ("at" : Str) [(("at" : Str), v)] = some v := by simp [List.lookup]
  obtain ⟨u, hu, ru⟩ := RelO.some_of (v := v) (o := mA "at") (by rw [← l]; exact hr "at")
  have J : PySem.W.InstAt s1.heap a oe C (some od) := ⟨ha, hz.1, by unfold PySem.W.notCls; rw [hd] <;> rfl, by rw [hz.2]; exact ho⟩
  exact HandSPX.exc_get I1.kIn J T.ga T.gg T.exC (PySem.W.findObj_own T.hdC T.noN rfl (by rw [hl, hu])) (handed_of ru) ⟨v, H1, I1.tok _, ru, q⟩
end
end L2

set_option maxHeartbeats 4000000
namespace RR
open PySem PySem.Spec PyProof.Rows L2 LamX
/-! ### an int on the left of a comparison -/
/-- the int's own comparison declines an instance -/
def DeclC (op : CmpOp) : Prop := ∃ (id : String) (B : Builtin), Slot "int" (cmpInfo op).2.1 id ∧ entryFor table id = some B ∧ (∀ a b, argsOk id ⟨[a, b], []⟩) ∧
  ∀ (a : Int) (t : Tok) (l C dx : Addr), Meets (B ⟨[.int a t, .ref l], []⟩) (fun _ R s => s.heap.get? l = some (PySem.W.instObj C dx) ∧ R (.ok (.ret Value.notImplemented)) s)
theorem decC_lt : DeclC .Lt := ⟨_, _, PySem.F.slot_int_lt, PySem.F.entry_int_lt, fun a b => PySem.F.args_int_lt_2 a b, fun a t l C dx =>
  .of_wp fun prog w A R s h => by obtain ⟨hp, g, d, tk, os⟩ := s; obtain ⟨hl, h⟩ := h; unfold PySem.W.instObj at hl; wp_walk; exact ⟨_, rfl, h⟩⟩
theorem decC_le : DeclC .LtE := ⟨_, _, PySem.F.slot_int_le, PySem.F.entry_int_le, fun a b => PySem.F.args_int_le_2 a b, fun a t l C dx =>
  .of_wp fun prog w A R s h => by obtain ⟨hp, g, d, tk, os⟩ := s; obtain ⟨hl, h⟩ := h; unfold PySem.W.instObj at hl; wp_walk; exact ⟨_, rfl, h⟩⟩
theorem decC_gt : DeclC .Gt := ⟨_, _, PySem.F.slot_int_gt, PySem.F.entry_int_gt, fun a b => PySem.F.args_int_gt_2 a b, fun a t l C dx =>
  .of_wp fun prog w A R s h => by obtain ⟨hp, g, d, tk, os⟩ := s; obtain ⟨hl, h⟩ := h; unfold PySem.W.instObj at hl; wp_walk; exact ⟨_, rfl, h⟩⟩
theorem decC_ge : DeclC .GtE := ⟨_, _, PySem.F.slot_int_ge, PySem.F.entry_int_ge, fun a b => PySem.F.args_int_ge_2 a b, fun a t l C dx =>
  .of_wp fun prog w A R s h => by obtain ⟨hp, g, d, tk, os⟩ := s; obtain ⟨hl, h⟩ := h; unfold PySem.W.instObj at hl; wp_walk; exact ⟨_, rfl, h⟩⟩
section
variable {X : Cx} {CX : CXT} {C f : Addr} {n : Nat} {g : Sp} {E : XK}
/-- i < x and its like -/
theorem op_cmpR {cop : CmpOp} (hop : ∀ a b, compareOp cop a b = richCompare cop a b) (D : DeclC cop) (sub : PySem.W.subIn X.K (.ref C) (.type "int") = some false) (hs : PySem.W.findIn X.K (.ref C) (cmpInfo cop).2.2 = some (some (.ref f))) (hf : PySem.W.isFn X.K (.ref f) = true)
    (F : FnR X.prog X.w X.K X.mg X.base CX n f g) (hr : Room n X.A) (hx : Passes CX X E) : OpR X (compareOp cop) (rOpR C g E) := by
  intro pins s σ H x y v u Q I rx ry h
  obtain ⟨⟨i, rfl⟩, ⟨a, dx, fs, rfl, ea⟩, q⟩ := h
  obtain ⟨t, rfl⟩ := rx
  obtain rfl : u = .ref a := ry
  obtain ⟨od, J⟩ := inst_of I ea
  have Xk := I.kIn
  obtain ⟨id, B, slot, entry, args, meets⟩ := D
  have hat : s.heap.get? a = some (PySem.W.instObj C dx) := J.at_
  have one : wpAny (model X.prog X.w) X.A (tryCompare (.ref a) (cmpInfo cop).2.2 (.int i t)) (fun r s' => ∃ v, r = some v ∧ EP X pins σ Q v s') X.xe s := by
    unfold tryCompare
    refine wpAny_bind (PySem.W.ifBound_K Xk J hs hf (wpAny_mono (wpAny_call (run_fnR (us := [.ref a, .int i t]) (vs := [.ref a, .int i]) F hr hx I (.cons rfl (.cons ⟨t, rfl⟩ .nil)) q)) (fun v s' hv => ?_) fun _ _ e => e))
    obtain ⟨z', H2, I2, rz, qz⟩ := hv
    have hb := back_of rz (show EP X pins σ Q v s' from ⟨z', H2, I2, rz, qz⟩)
    cases v <;> first | exact hb.elim | exact wpAny_pure ⟨_, rfl, hb⟩
  have no : ∀ {R : Option Value → Shared → Prop}, R none s → wpAny (model X.prog X.w) X.A (tryCompare (.int i t) (cmpInfo cop).2.1 (.ref a)) R X.xe s := fun {R} hR => by
    unfold tryCompare
    refine wpAny_bind (wpAny_callSpecialIfBound?_slot (typeIs_int s i t) slot (PySem.call_meets slot (typeIs_int s i t) entry (args _ _) (meets i t a C dx) ⟨hat, by exact wpAny_pure hR⟩))
  rw [hop]
  unfold richCompare
  refine wpAny_holding (wpAny_bind (wpAny_cRoomFor hr.units0 ?_))
  show wpAny _ _ (do let ta ← typeOf (.int i t); _) _ _ _
  refine wpAny_bind ((PySem.W.Looks.of_pure rfl).here (wpAny_bind (J.type.here ?_)))
  have hne : (Value.type "int" != Value.ref C) = true := by
    have e : (Value.type "int" == Value.ref C) = false := Bool.eq_false_iff.mpr fun q => by cases beq_iff_eq.mp q
    unfold bne
    rw [e]
    rfl
  rw [if_pos hne]
  refine wpAny_bind ((PySem.W.looks_subIn Xk sub).here ?_)
  simp only [Bool.false_eq_true, if_false]
  refine wpAny_bind (no ?_)
  dsimp only
  rw [if_pos (show (!false) = true from rfl)]
  refine wpAny_bind (wpAny_mono one (fun r s' z => ?_) fun _ _ e => e)
  obtain ⟨v, rfl, hq⟩ := z
  exact wpAny_pure hq
/-- C.m(k = v), C's static method -/
def tSMethK (C : Addr) (n : Nat) (sp : Sp) (gV : List V → List V → List V) (E : XK) (ta : TE) (tk : TA) : TE := fun σ H Q => ta σ H fun x H1 => x = .ref C ∧ tk σ H1 fun zs H2 => zs.length = n ∧ sp (gV [] zs) H2 Q E
theorem pe_smethK {k : Nat} {p : Addr} {mc : Value} {fd : FuncData} {ps ks : List Str} {m : Str} {sp : Sp} {o : Expr} {kws : List Keyword} {ta : TE} {tk : TA} {g : List Value → List Value → List Value} {gV : List V → List V → List V} {apos pos : Pos} {pl : Sem Bool}
    (he : PE X o ta) (T : SMet X.K C mc m p f) (F : FnOk X.prog X.w X.K X.mg X.base CX k f fd ps sp) (hr : Room k X.A) (hb : KBn X.K fd ps 0 ks g gV) (hx : Passes CX X E) (hk : PK X kws tk)
    (ht : eval (.Call (.Attribute o m apos) [] kws pos) X.env = (do
      let ov ← eval o X.env
      standAt apos.atName
      let (f, first) ← holding [ov] (getMethod ov m pl)
      callWith pos f first (backTo pos (starEach [] X.env)) (backToKw pos (keywordEach kws X.env))) := by rfl)
    (hall : (backToKw pos (keywordEach kws X.env)).all (·.1.isSome) = true := by rfl) (hks : (backToKw pos (keywordEach kws X.env)).filterMap (·.1) = ks := by rfl)
    (hpl : ((backTo pos (starEach [] X.env)).any (·.1) || (backToKw pos (keywordEach kws X.env)).any (·.1.isNone)) = false := by rfl) :
    PE X (.Call (.Attribute o m apos) [] kws pos) (tSMethK C ks.length sp gV E ta tk) := by
  constructor
  intro pins s σ H Q I h
  refine PySem.W.methodCall_KW (pl := pl) (thn (he.run pins s σ H _ I h) ?_) ht
  rintro u s1 ⟨x, H1, I1, rx, rfl, q⟩
  obtain rfl : u = .ref C := rx
  refine smeth_get I1 T fun s2 I2 => ?_
  refine PySem.W.callWith_KW0 (first := []) (h₀ := X.base) I2.ok.mod.kin T.kp hall (thn (hk.run pos pins s2 σ H1 _ I2 q) ?_) hpl
  rintro ws s3 ⟨zs, H2, I3, rz, l2, q2⟩
  refine ⟨I3.kIn, ?_⟩
  rw [hks]
  exact run_fnN (us := []) (vs := []) F hr hb hx I3 .nil rz rfl l2 q2
/-- C(k = v, ..) -/
def tMakeK0 (C : Addr) (m : Nat) (sp : Sp) (gV : List V → List V → List V) (E : XK) (tk : TA) : TE := fun σ H Q => tk σ H fun zs H2 => zs.length = m ∧
  ∀ x dx, H2 x = none → H2 dx = none → dx ≠ x → sp (gV [.ref x] zs) (upd (upd H2 dx (.own x)) x (.ins C dx [])) (fun v H3 => v = .non ∧ Q (.ref x) H3) E
theorem pe_makeK0 {k : Nat} {fd : FuncData} {ps ks : List Str} {sp : Sp} {x : Str} {p pos : Pos} {kws : List Keyword} {tk : TA} {g : List Value → List Value → List Value} {gV : List V → List V → List V}
    (M : Mk X.K C f) (F : FnOk X.prog X.w X.K X.mg X.base CX k f fd ps sp) (hr : Room (k + 1) X.A) (hg : Gl X x) (hm : X.mg x = some (.ref C)) (hb : KBn X.K fd ps (0 + 1) ks g gV) (hx : Passes CX X E)
    (hkw : PK X kws tk) (hall : (backToKw pos (keywordEach kws X.env)).all (·.1.isSome) = true := by rfl) (hks : (backToKw pos (keywordEach kws X.env)).filterMap (·.1) = ks := by rfl)
    (hdb : (x == ("__debug__" : Str)) = false := by decide)
    (hpl : ((backTo pos (starEach [] X.env)).any (·.1) || (backToKw pos (keywordEach kws X.env)).any (·.1.isNone)) = false := by rfl) :
    PE X (.Call (.Name x p) [] kws pos) (tMakeK0 C ks.length sp gV E tk) := by
  refine ⟨fun pins s σ H Q I h => ?_⟩
  refine wpAny_Call_Name_kw (ld_glob I hg hm ?_ hdb)
  refine PySem.W.callWith_KW0 (first := []) (h₀ := X.base) I.ok.mod.kin M.kp hall (thn (hkw.run pos pins s σ H _ I h) fun ws s2 ⟨zs, H2, I2, rz, l2, q2⟩ => ⟨I2.kIn, ?_⟩) hpl
  rw [hks]
  exact run_makeN (us := []) (vs := []) M F hr hb hx I2 .nil rz rfl l2 q2
end
/-! ### texts of fractions -/
def txt (t b : Int) : Str := if b = 0 then "endless" else if b = 1 then Str.ofString (toString t) else Str.ofString (toString t) ++ "/" ++ Str.ofString (toString b)
theorem txt_len {t b : Int} (ht : Sm 1900 t) (hb : Sm 1900 b) : (txt t b).length ≤ 4000 := by
  have e1 := int_text_length_le (k := 1920) (by decide) (log_of ht)
  have e2 := int_text_length_le (k := 1920) (by decide) (log_of hb)
  unfold txt
  split
  · exact (by decide +kernel : (Str.ofString "endless").length ≤ 4000)
  · split
    · rw [PySem.ofString_length]
      omega
    · simp only [strLen_append, PySem.ofString_length]
      have l1 : "/".length = 1 := rfl
      omega
def reprR (t b : Int) : Str := "Ratio(" ++ txt t b ++ ")"
def spStr (C : Addr) (f : Int → Int → Str) : Sp := fun vs H Q _ => ∃ x t b, vs = [.ref x] ∧ RatAt C H x t b ∧ Sm 1900 t ∧ Sm 1900 b ∧ Q (.str (f t b)) H
end RR
namespace RR
open PySem PySem.Spec PyProof.Rows L2 LamX
/-! ### the class Ratio, asked anything -/
/-- whether a value is an int and no bool -/
def IsI (K : PySem.W.Frag) (H : Hp) (v : V) (c : Bool) : Prop := (∃ i, v = .int i ∧ c = true) ∨ (∃ k, v = .bl k ∧ c = false) ∨ (∃ t, TyX K H v t ∧ PySem.W.kitOne K t (.type "int") = some false ∧ c = false)
def spIsIntA (K : PySem.W.Frag) : Sp := fun vs H Q _ => ∃ v c, vs = [v] ∧ IsI K H v c ∧ Q (.bl c) H
/-- an error of the class at B with the field at -/
def BadAt (B : Addr) (k : Int) (H : Hp) (E : XK) : Prop := ∀ d H', Same H H' → H' d = some (.xd [(("at" : Str), V.int k)]) → E (.ref B) (some d) H'
def spInitA (K : PySem.W.Frag) (C B : Addr) : Sp := fun vs H Q E => ∃ x dx v w, vs = [.ref x, v, w] ∧ H x = some (.ins C dx []) ∧
  ((∃ t b, v = .int t ∧ w = .int b ∧ 0 < b ∧ Sm 5000 t ∧ Sm 5000 b ∧ Q .non (upd (upd H x (.ins C dx [("top", .int (lo t b))])) x (.ins C dx (rfs (lo t b) (lb t b))))) ∨
    (IsI K H v false ∧ BadAt B 0 H E) ∨ (∃ t, v = .int t ∧ (IsI K H w false ∨ ∃ b, w = .int b ∧ b < 1) ∧ BadAt B 1 H E))
def spOfA (K : PySem.W.Frag) (C B : Addr) : Sp := fun vs H Q E => ∃ v, vs = [v] ∧ ((∃ t b, NumV C H v t b ∧ Sm 5000 t ∧ NewR C H Q t b) ∨ (∃ t, TyX K H v t ∧ PySem.W.kitOne K t (.ref C) = some false ∧ IsI K H v false ∧ BadAt B 0 H E))
def spWhole (C : Addr) : Sp := fun vs H Q _ => ∃ x t b, vs = [.ref x] ∧ RatAt C H x t b ∧ Q (.bl (decide (b = 1))) H
def spCmp (C : Addr) (R : Int → Int → Bool) : Sp := fun vs H Q _ => ∃ x y t b u d, vs = [.ref x, y] ∧ RatAt C H x t b ∧ NumV C H y u d ∧ Sm 1000 t ∧ Sm 1000 b ∧ Sm 1000 u ∧ Sm 1000 d ∧ ∀ H', Same H H' → Q (.bl (R (t * d) (u * b))) H'
def spEqA (K : PySem.W.Frag) (C : Addr) : Sp := fun vs H Q _ => ∃ x t b y, vs = [.ref x, y] ∧ RatAt C H x t b ∧ ((∃ a u d, y = .ref a ∧ RatAt C H a u d ∧ Q (.bl (decide (t = u ∧ b = d))) H) ∨ (∃ t, TyX K H y t ∧ PySem.W.kitOne K t (.ref C) = some false ∧ Q (.bl false) H))
theorem IsI.same {K : PySem.W.Frag} {H H' : Hp} {v : V} {c : Bool} (ty : ∀ t, TyX K H v t → TyX K H' v t) (h : IsI K H v c) : IsI K H' v c := by
  rcases h with h | h | ⟨t, a, b, e⟩
  · exact .inl h
  · exact .inr (.inl h)
  · exact .inr (.inr ⟨t, ty _ a, b, e⟩)
theorem tyX_keep {K : PySem.W.Frag} {H H' : Hp} (k : ∀ b o, H b = some o → H' b = some o) {v : V} {t : Value} (h : TyX K H v t) : TyX K H' v t := by
  cases h with
  | base b =>
    cases b with
    | non => exact .base .non
    | bl x => exact .base (.bl x)
    | int i => exact .base (.int i)
    | str x => exact .base (.str x)
    | flt x => exact .base (.flt x)
    | lst e => exact .base (.lst (k _ _ e))
    | frz e => exact .base (.frz (k _ _ e))
    | tup e => exact .base (.tup (k _ _ e))
    | dK e => exact .base (.dK (k _ _ e))
    | dT e => exact .base (.dT (k _ _ e))
    | ins e cl ha hn htk hm => exact .base (.ins (k _ _ e) cl ha hn htk hm)
  | byt b => exact .byt b
  | set e => exact .set (k _ _ e)
  | kList e c => exact .kList e c
  | kTuple e c => exact .kTuple e c
  | kDict e c => exact .kDict e c
  | fTuple e => exact .fTuple (k _ _ e)
  | fDict e => exact .fDict (k _ _ e)
theorem BadAt.same {B : Addr} {k : Int} {H H' : Hp} {E : XK} (h : BadAt B k H E) (s : Same H H') : BadAt B k H' E := fun d G s2 e => h d G (s.trans s2) e
/-- Ratio(v, w), whatever they are -/
theorem mkX {K : PySem.W.Frag} {C B : Addr} {H : Hp} {Q : VK} {E : XK} {v w : V}
    (h : (∃ t b, v = .int t ∧ w = .int b ∧ 0 < b ∧ Sm 5000 t ∧ Sm 5000 b ∧ NewR C H Q (lo t b) (lb t b)) ∨ (IsI K H v false ∧ BadAt B 0 H E) ∨ (∃ t, v = .int t ∧ (IsI K H w false ∨ ∃ b, w = .int b ∧ b < 1) ∧ BadAt B 1 H E)) :
    ∀ x dx, H x = none → H dx = none → dx ≠ x → spInitA K C B [.ref x, v, w] (upd (upd H dx (.own x)) x (.ins C dx [])) (fun v H2 => v = .non ∧ Q (.ref x) H2) E := by
  intro x dx nx nd ne
  have sm : Same H (upd (upd H dx (.own x)) x (.ins C dx [])) := fun a o e => by
    rw [upd_ne (ne_of_none e nx), upd_ne (ne_of_none e nd)]
    exact e
  refine ⟨x, dx, v, w, rfl, upd_same, ?_⟩
  rcases h with ⟨t, b, rfl, rfl, b0, st, sb, k⟩ | ⟨i, k⟩ | ⟨t, e, i, k⟩
  · refine .inl ⟨t, b, rfl, rfl, b0, st, sb, rfl, k x _ (fun a o e => ?_) ⟨dx, upd_same⟩⟩
    have h1 : a ≠ x := ne_of_none e nx
    rw [upd_ne h1, upd_ne h1, upd_ne h1, upd_ne (ne_of_none e nd)]
    exact e
  · exact .inr (.inl ⟨i.same fun _ => tyX_keep sm, k.same sm⟩)
  · refine .inr (.inr ⟨t, e, ?_, k.same sm⟩)
    rcases i with i | i
    · exact .inl (i.same fun _ => tyX_keep sm)
    · exact .inr i
end RR
namespace RR
open PySem PySem.Spec PyProof.Rows L2 LamX
theorem empty_app (x : Str) : Str.empty ++ x = x := by
  cases x with
  | mk c =>
    show (⟨#[] ++ c⟩ : Str) = ⟨c⟩
    rw [Array.empty_append]
end RR
set_option maxHeartbeats 4000000
namespace RR
open PySem PySem.Spec PyProof.Rows L2 LamX
/-! ### texts that may be shown -/
def Plain (x : Str) : Prop := ∀ c ∈ x.cps.toList, c < 16 ^ 8
theorem plain_of (s : String) : Plain (Str.ofString s) := by
  intro c hc
  rw [signs_ofString] at hc
  obtain ⟨d, _, rfl⟩ := List.mem_map.mp hc
  have := d.valid
  have h2 : d.toNat < 1114112 := by
    rcases this with h | h
    · show d.val.toNat < _
      have : d.val.toNat < 55296 := h
      omega
    · exact h.2
  exact Nat.lt_trans h2 (by decide)
theorem plain_app {x y : Str} (h : Plain x) (k : Plain y) : Plain (x ++ y) := by
  intro c hc
  have e : (x ++ y).cps.toList = x.cps.toList ++ y.cps.toList := by
    show (x.cps ++ y.cps).toList = _
    simp
  rw [e] at hc
  rcases List.mem_append.mp hc with hc | hc
  · exact h c hc
  · exact k c hc
theorem plain_txt (t b : Int) : Plain (txt t b) := by
  unfold txt
  split
  · exact plain_of _
  · split
    · exact plain_of _
    · exact plain_app (plain_app (plain_of _) (plain_of _)) (plain_of _)
theorem plain_repr (t b : Int) : Plain (reprR t b) := plain_app (plain_app (plain_of _) (plain_txt t b)) (plain_of _)
/-- data that may be shown: at most n signs, at most m deep, no dict -/
structure Shows (n m : Nat) (d : PyData) : Prop where
  sh : d.showable = true
  nd : d.hasDict = false
  dp : d.depth ≤ m
  ln : d.shown.length ≤ n
theorem shows_bool (b : Bool) {n m : Nat} (h : 5 ≤ n) : Shows n m (.bool b) := ⟨rfl, rfl, Nat.zero_le _, Nat.le_trans (by cases b <;> decide) h⟩
theorem shows_str {x : Str} {n m : Nat} (p : Plain x) (h : 10 * x.length + 2 ≤ n) : Shows n m (.str x) := ⟨rfl, rfl, Nat.zero_le _, Nat.le_trans (PySem.StrLaws.reprText_len x p) h⟩
theorem shows_int {i : Int} {n m : Nat} (p : Sm 1900 i) (h : 1921 ≤ n) : Shows n m (.int i) := ⟨decide_eq_true (log_of p), rfl, Nat.zero_le _, by
  have := int_text_length_le (k := 1920) (by decide) (log_of p)
  show (Str.ofString (toString i)).length ≤ n
  rw [PySem.ofString_length]
  omega⟩
inductive ShowsAll (n m : Nat) : List PyData → Prop
  | nil : ShowsAll n m []
  | cons {d : PyData} {ds : List PyData} : Shows n m d → ShowsAll n m ds → ShowsAll n m (d :: ds)
theorem ShowsAll.sh {n m : Nat} : ∀ {ds : List PyData}, ShowsAll n m ds → PyData.showableAll ds = true ∧ PyData.hasDictAll ds = false ∧ PyData.depthAll ds ≤ m ∧ ((PyData.shownAll ds).map (·.length)).sum ≤ ds.length * n ∧ (PyData.shownAll ds).length = ds.length
  | _, .nil => ⟨rfl, rfl, Nat.zero_le _, Nat.zero_le _, rfl⟩
  | _, .cons (d := d) (ds := ds) h t => by
    obtain ⟨a, b, c, e, f⟩ := t.sh
    refine ⟨?_, ?_, ?_, ?_, ?_⟩
    · show (d.showable && PyData.showableAll ds) = true
      rw [h.sh, a]; rfl
    · show (d.hasDict || PyData.hasDictAll ds) = false
      rw [h.nd, b]; rfl
    · show max d.depth (PyData.depthAll ds) ≤ m
      have := h.dp
      omega
    · show d.shown.length + ((PyData.shownAll ds).map (·.length)).sum ≤ (ds.length + 1) * n
      have := h.ln
      rw [Nat.add_mul]
      omega
    · show (PyData.shownAll ds).length + 1 = ds.length + 1
      rw [f]
theorem shows_list {n m k l : Nat} {ds : List PyData} (h : ShowsAll n m ds) (hl : ds.length * n + 2 * ds.length + 3 ≤ k) (hm : m + 1 ≤ l) : Shows k l (.list ds) := by
  obtain ⟨a, b, c, e, f⟩ := h.sh
  refine ⟨a, b, ?_, ?_⟩
  · show PyData.depthAll ds + 1 ≤ l
    omega
  · show (listText (PyData.shownAll ds)).length ≤ k
    have := listText_len_le (PyData.shownAll ds)
    rw [f] at this
    omega
/-- repr(x), x data -/
def rReprS (K : PySem.W.Frag) (n : Nat) : List V → Hp → VK → Prop := fun xs H Q => ∃ a d, xs = [.ref a] ∧ Dp K H (.ref a) d ∧ Shows n 20 d ∧ Q (.str d.shown) H
theorem call_reprS {X : Cx} {n : Nat} (hn : n ≤ sizeLine) (hu : X.A.units + 64 < cLine) (fr : Free X.A) : CallR X (.builtin "repr") (rReprS X.K n) := by
  intro pins s σ H xs us Q I rv h
  obtain ⟨a, d, rfl, hd, hs, q⟩ := h
  exact call_repr hu fr pins s σ H _ us Q I rv ⟨a, d, rfl, hd, hs.sh, hs.nd, hs.dp, Nat.le_trans hs.ln hn, q⟩
section
variable {X : Cx} {CX : CXT} {C f : Addr} {n : Nat} {g : Sp} {E : XK}
/-- bool(x), x an instance -/
def rBoolO (C : Addr) (g : Sp) (E : XK) : List V → Hp → VK → Prop := fun xs H Q => (∃ a dx fs, xs = [.ref a] ∧ H a = some (.ins C dx fs)) ∧ g xs H (fun v H' => ∃ b, v = .bl b ∧ Q v H') E
theorem call_boolO (hs : PySem.W.findIn X.K (.ref C) "__bool__" = some (some (.ref f))) (hf : PySem.W.isFn X.K (.ref f) = true) (F : FnR X.prog X.w X.K X.mg X.base CX n f g) (hr : Room (n + 2) X.A) (hx : Passes CX X E) : CallR X (.type "bool") (rBoolO C g E) := by
  intro pins s σ H xs us Q I rv h
  obtain ⟨⟨a, dx, fs, rfl, ea⟩, q⟩ := h
  obtain ⟨u, rfl, ru⟩ := rv.one
  obtain rfl : u = .ref a := ru
  obtain ⟨od, J⟩ := inst_of I ea
  obtain ⟨m, fr⟩ := I.fr
  have hr2 : Room n X.A.in1.in1 := (show Room (n + 1) X.A.in1 from Room.in1 hr).in1
  refine callType_codes (T := "bool") (Bi := Builtin.«object.__init__») (Q₁ := fun r s₁ => ∃ y, r = .bool y ∧ EP X pins σ Q r s₁) PySem.F.called_bool (PySem.F.typeCall_bool_1 _) PySem.F.entry_object_init ?_ ?_
  · refine codeAny_of_tree ?_
    show wpAny _ X.A.in1.in1 (do checkBuiltinCall "bool.__new__" ⟨[.type "bool", .ref a], []⟩; again (.builtin "bool.__new__" ⟨[.type "bool", .ref a], []⟩)) _ _ s
    refine wpAny_bind (wpAny_of_eq (PySem.F.newCall_bool_1 _) (wpAny_pure ⟨plainId_quiet (by decide +kernel) _, codeAny_builtin PySem.F.entry_bool_new ?_⟩))
    rw [Around.under_plainId (by decide +kernel) _]
    unfold Builtin.«bool.__new__»
    refine wpAny_bind (wpAny_pure ?_)
    refine wpAny_bind (wpAny_of_eq PySem.F.conv_sub_bool ?_)
    refine wpAny_bind (wpAny_pure ?_)
    refine wpAny_bind (PySem.W.truthy_K fr I.ok.mod.kin J hs hf (wpAny_mono (run_in (us := [.ref a]) (vs := [.ref a]) F hr2 I.env0.in1.in1 hx I (.cons rfl .nil) q) (fun v s' z => ?_) fun _ _ z => z))
    obtain ⟨z', H2, I2, rz, b, rfl, qz⟩ := z
    obtain rfl : v = .bool b := rz
    exact wpAny_pure ⟨_, rfl, V.bl b, H2, I2, rfl, qz⟩
  · rintro obj s₁ ⟨y, rfl, hq⟩
    exact ⟨PySem.typeIs_bool _ _, PySem.F.args_object_init_2 _ _, object_init_meets PySem.F.called_bool.init.lookup PySem.F.called_bool.made (by decide) X.prog X.w X.A.in1 _ s₁ ⟨PySem.typeIs_bool _ _, rfl, hq⟩⟩
end
end RR
set_option maxHeartbeats 4000000
namespace RR
open PySem PySem.Spec PyProof.Rows L2 LamX
/-! ### what 'heard' makes of a lambda that may raise any of the three -/
def TTg (N B D : Addr) : (XK → Hp → VK → Prop) → Hp → VK → Prop := fun tl H Q => ∀ H0, Same H H0 → ∃ (E' : XK) (Q' : VK), tl E' H0 Q' ∧
  (∀ v H1, Q' v H1 → ∀ q H2, Same H1 H2 → H2 q = some (.lst [v]) → Q (.ref q) H2) ∧
  (∀ cls d H1, E' cls d H1 → (cls = .ref N ∧ d = none ∧ ∀ q H2, Same H1 H2 → H2 q = some (.tup [.str "none"]) → Q (.ref q) H2) ∨
    ∃ dd k, d = some dd ∧ H1 dd = some (.xd [(("at" : Str), V.int k)]) ∧ ((cls = .ref B ∧ ∀ q H2, Same H1 H2 → H2 q = some (.tup [.str "ratio", .int k]) → Q (.ref q) H2) ∨ (cls = .ref D ∧ ∀ q H2, Same H1 H2 → H2 q = some (.tup [.str "text", .int k]) → Q (.ref q) H2)))
/-- the wish that B comes at k -/
def wAt (B : Addr) (k : Int) (H0 : Hp) : XK := fun cls d H' => cls = .ref B ∧ ∃ dd, d = some dd ∧ Same H0 H' ∧ H' dd = some (.xd [(("at" : Str), V.int k)])
theorem wAt_bad {B : Addr} {k : Int} {H0 : Hp} : BadAt B k H0 (wAt B k H0) := fun d H' s e => ⟨rfl, d, rfl, s, e⟩
/-- a lambda that raises B at k -/
theorem heardAt {N B D : Addr} {k : Int} {tl : (XK → Hp → VK → Prop)} {H : Hp} {Q : VK} (h : ∀ H0, Same H H0 → tl (wAt B k H0) H0 (fun _ _ => False))
    (kk : ∀ q H2, Same H H2 → H2 q = some (.tup [.str "ratio", .int k]) → Q (.ref q) H2) : TTg N B D tl H Q :=
  fun H0 s0 => ⟨wAt B k H0, _, h H0 s0, fun _ _ z => z.elim, fun cls d H1 z => by
    obtain ⟨rfl, dd, rfl, s1, e⟩ := z
    exact .inr ⟨dd, k, rfl, e, .inl ⟨rfl, fun q H2 s e2 => kk q H2 (s0.trans (s1.trans s)) e2⟩⟩⟩
/-! ### signs -/
def OkP (t b : Int) : Prop := 0 < b ∨ (t = 1 ∧ b = 0)
theorem OkP.of {t b : Int} (h : LowE t b) : OkP t b := h.elim (fun h => .inl h.1) .inr
def sgn (t b u d : Int) : Int := if b = 0 ∨ d = 0 then (if b = 0 then 1 else 0) - (if d = 0 then 1 else 0) else (if t * d - u * b > 0 then 1 else 0) - (if t * d - u * b < 0 then 1 else 0)
theorem sgn_is {t b u d : Int} (h : OkP t b) (k : OkP u d) : (sgn t b u d < 0 ↔ t * d < u * b) ∧ (sgn t b u d = 0 ↔ t * d = u * b) := by
  unfold sgn
  rcases h with h | ⟨rfl, rfl⟩ <;> rcases k with k | ⟨rfl, rfl⟩
  · rw [if_neg (by omega)]
    generalize t * d = x
    generalize u * b = y
    constructor <;> (split <;> split <;> omega)
  · rw [if_pos (by omega), if_neg (by omega)]
    simp
    omega
  · rw [if_pos (by omega), if_neg (show ¬ d = 0 by omega)]
    simp
    omega
  · simp
/-! ### promises of the law's defs -/
def spText : Sp := fun vs H Q _ => ∃ p t b, vs = [.ref p] ∧ Pr H p t b ∧ Sm 1900 t ∧ Sm 1900 b ∧ Q (.str (txt t b)) H
def spFace (C : Addr) : Sp := fun vs H Q _ => ∃ a p t b, vs = [.ref a, .ref p] ∧ RatAt C H a t b ∧ Pr H p t b ∧ Sm 1000 t ∧ Sm 1000 b ∧ ∀ H', Same H H' → Q (.bl true) H'
def spSign : Sp := fun vs H Q _ => ∃ p1 p2 t b u d, vs = [.ref p1, .ref p2] ∧ Pr H p1 t b ∧ Pr H p2 u d ∧ Sm 1000 t ∧ Sm 1000 b ∧ Sm 1000 u ∧ Sm 1000 d ∧ Q (.int (sgn t b u d)) H
def spSigns (C : Addr) : Sp := fun vs H Q _ => ∃ a y s t b u d, vs = [.ref a, y, .int s] ∧ RatAt C H a t b ∧ NumV C H y u d ∧ Sm 1000 t ∧ Sm 1000 b ∧ Sm 1000 u ∧ Sm 1000 d ∧ ((s < 0 ↔ t * d < u * b) ∧ (s = 0 ↔ t * d = u * b)) ∧ ∀ H', Same H H' → Q (.bl true) H'
end RR
namespace RR
open PySem PySem.Spec PyProof.Rows L2 LamX
/-- y < x, x a Ratio, y one or an int -/
theorem signI {C : Addr} {H : Hp} {Q : VK} {E E' : XK} {R R' : Int → Int → Bool} (hR : ∀ i j, R' i j = R j i) {x : Addr} {y : V} {t b u d : Int} (n : NumV C H y u d) (r : RatAt C H x t b) (st : Sm 1000 t) (sb : Sm 1000 b) (su : Sm 1000 u) (sd : Sm 1000 d)
    (k : ∀ H', Same H H' → Q (.bl (R (u * b) (t * d))) H') : rOpL C (spCmp C R) E y (.ref x) H Q ∨ rOpR C (spCmp C R') E' y (.ref x) H Q := by
  obtain ⟨dx, e⟩ := r
  rcases n with ⟨a, rfl, dy, f⟩ | ⟨rfl, rfl⟩
  · exact .inl ⟨⟨a, dy, _, rfl, f⟩, .inr ⟨x, dx, _, rfl, e⟩, a, .ref x, u, d, t, b, rfl, ⟨dy, f⟩, .inl ⟨x, rfl, dx, e⟩, su, sd, st, sb, k⟩
  · refine .inr ⟨⟨u, rfl⟩, ⟨x, dx, _, rfl, e⟩, x, .int u, t, b, u, 1, rfl, ⟨dx, e⟩, .inr ⟨rfl, rfl⟩, st, sb, su, sd, fun H' s => ?_⟩
    rw [hR]
    exact k H' s
end RR
set_option maxHeartbeats 4000000
namespace RR
open PySem PySem.Spec PyProof.Rows L2 LamX
/-! ### values that are no whole numbers -/
/-- what v names stays -/
def KeepV (H H' : Hp) (v : V) : Prop := ∀ a o, v = .ref a → H a = some o → (∀ ps, o ≠ .tbl ps) → H' a = some o
theorem KeepV.same {H H' : Hp} {v : V} (s : Same H H') : KeepV H H' v := fun _ _ _ e _ => s _ _ e
theorem KeepV.ext {H H' : Hp} {v : V} (s : ExtN H H') : KeepV H H' v := fun _ _ _ e n => s _ _ e n
theorem KeepV.pen {H H' : Hp} {v : V} {p : Addr} (k : Keep p H H') (n : v ≠ .ref p) : KeepV H H' v := fun a o e h _ => k a o h fun z => n (by rw [e, z])
theorem tyX_keepV {K : PySem.W.Frag} {H H' : Hp} {v : V} {t : Value} (k : KeepV H H' v) (h : TyX K H v t) : TyX K H' v t := by
  have k := fun a o (e : v = .ref a) (h : H a = some o) n => k a o e h n
  cases h with
  | base b =>
    cases b with
    | non => exact .base .non
    | bl x => exact .base (.bl x)
    | int i => exact .base (.int i)
    | str x => exact .base (.str x)
    | flt x => exact .base (.flt x)
    | lst e => exact .base (.lst (k _ _ rfl e fun _ z => by cases z))
    | frz e => exact .base (.frz (k _ _ rfl e fun _ z => by cases z))
    | tup e => exact .base (.tup (k _ _ rfl e fun _ z => by cases z))
    | dK e => exact .base (.dK (k _ _ rfl e fun _ z => by cases z))
    | dT e => exact .base (.dT (k _ _ rfl e fun _ z => by cases z))
    | ins e cl ha hn htk hm => exact .base (.ins (k _ _ rfl e fun _ z => by cases z) cl ha hn htk hm)
  | byt b => exact .byt b
  | set e => exact .set (k _ _ rfl e fun _ z => by cases z)
  | kList e c => exact .kList e c
  | kTuple e c => exact .kTuple e c
  | kDict e c => exact .kDict e c
  | fTuple e => exact .fTuple (k _ _ rfl e fun _ z => by cases z)
  | fDict e => exact .fDict (k _ _ rfl e fun _ z => by cases z)
theorem IsI.keepV {K : PySem.W.Frag} {H H' : Hp} {v : V} {c : Bool} (k : KeepV H H' v) (h : IsI K H v c) : IsI K H' v c := h.same fun _ y => tyX_keepV k y
/-- what the class C says of a type of another kind -/
def OtherT (K : PySem.W.Frag) (C : Addr) (t : Value) : Prop := PySem.W.kitOne K t (.ref C) = some false ∧ PySem.W.notFirst K C t = true
structure Others (K : PySem.W.Frag) (C : Addr) : Prop where
  non : OtherT K C (.type "NoneType")
  bl : OtherT K C (.type "bool")
  int : OtherT K C (.type "int")
  str : OtherT K C (.type "str")
  lst : OtherT K C (.type "list")
  tup : OtherT K C (.type "tuple")
  dict : OtherT K C (.type "dict")
/-- a value of another kind -/
def NoR (K : PySem.W.Frag) (C : Addr) (H : Hp) (v : V) : Prop := ∃ t, TyX K H v t ∧ OtherT K C t
theorem NoR.keepV {K : PySem.W.Frag} {C : Addr} {H H' : Hp} {v : V} (k : KeepV H H' v) (h : NoR K C H v) : NoR K C H' v := h.elim fun t y => ⟨t, tyX_keepV k y.1, y.2⟩
theorem NoR.same {K : PySem.W.Frag} {C : Addr} {H H' : Hp} {v : V} (h : NoR K C H v) (s : Same H H') : NoR K C H' v := h.keepV (.same s)
/-- no whole number: a ratio, or of another kind -/
def OddV (K : PySem.W.Frag) (C : Addr) (H : Hp) (v : V) : Prop := IsI K H v false ∧ ((∃ a t b, v = .ref a ∧ RatAt C H a t b ∧ Sm 100 t ∧ Sm 100 b) ∨ NoR K C H v)
theorem OddV.keepV {K : PySem.W.Frag} {C : Addr} {H H' : Hp} {v : V} (k : KeepV H H' v) (h : OddV K C H v) : OddV K C H' v := by
  refine ⟨h.1.keepV k, ?_⟩
  rcases h.2 with ⟨a, t, b, e, ⟨dx, r⟩, st, sb⟩ | h
  · exact .inl ⟨a, t, b, e, ⟨dx, k _ _ e r fun _ z => by cases z⟩, st, sb⟩
  · exact .inr (h.keepV k)
theorem OddV.same {K : PySem.W.Frag} {C : Addr} {H H' : Hp} {v : V} (h : OddV K C H v) (s : Same H H') : OddV K C H' v := h.keepV (.same s)
theorem OddV.ext {K : PySem.W.Frag} {C : Addr} {H H' : Hp} {v : V} (h : OddV K C H v) (s : ExtN H H') : OddV K C H' v := h.keepV (.ext s)
section
variable {K : PySem.W.Frag} {C : Addr} {H : Hp}
theorem odd_non (o : Others K C) : OddV K C H .non := ⟨.inr (.inr ⟨_, .base .non, kit_ty (by decide +kernel), rfl⟩), .inr ⟨_, .base .non, o.non⟩⟩
theorem odd_bl (o : Others K C) (b : Bool) : OddV K C H (.bl b) := ⟨.inr (.inl ⟨b, rfl, rfl⟩), .inr ⟨_, .base (.bl b), o.bl⟩⟩
theorem odd_str (o : Others K C) (x : Str) : OddV K C H (.str x) := ⟨.inr (.inr ⟨_, .base (.str x), kit_ty (by decide +kernel), rfl⟩), .inr ⟨_, .base (.str x), o.str⟩⟩
theorem odd_lst (o : Others K C) {a : Addr} {xs : List V} (e : H a = some (.lst xs)) : OddV K C H (.ref a) := ⟨.inr (.inr ⟨_, .base (.lst e), kit_ty (by decide +kernel), rfl⟩), .inr ⟨_, .base (.lst e), o.lst⟩⟩
theorem odd_tup (o : Others K C) {a : Addr} {xs : List V} (e : H a = some (.tup xs)) : OddV K C H (.ref a) := ⟨.inr (.inr ⟨_, .base (.tup e), kit_ty (by decide +kernel), rfl⟩), .inr ⟨_, .base (.tup e), o.tup⟩⟩
theorem odd_dK (o : Others K C) {a : Addr} {kvs : List (Key × V)} (e : H a = some (.dK kvs)) : OddV K C H (.ref a) := ⟨.inr (.inr ⟨_, .base (.dK e), kit_ty (by decide +kernel), rfl⟩), .inr ⟨_, .base (.dK e), o.dict⟩⟩
theorem noR_non (o : Others K C) : NoR K C H .non := ⟨_, .base .non, o.non⟩
theorem noR_bl (o : Others K C) (b : Bool) : NoR K C H (.bl b) := ⟨_, .base (.bl b), o.bl⟩
theorem noR_int (o : Others K C) (i : Int) : NoR K C H (.int i) := ⟨_, .base (.int i), o.int⟩
theorem noR_str (o : Others K C) (x : Str) : NoR K C H (.str x) := ⟨_, .base (.str x), o.str⟩
theorem noR_lst (o : Others K C) {a : Addr} {xs : List V} (e : H a = some (.lst xs)) : NoR K C H (.ref a) := ⟨_, .base (.lst e), o.lst⟩
theorem noR_tup (o : Others K C) {a : Addr} {xs : List V} (e : H a = some (.tup xs)) : NoR K C H (.ref a) := ⟨_, .base (.tup e), o.tup⟩
theorem noR_dK (o : Others K C) {a : Addr} {kvs : List (Key × V)} (e : H a = some (.dK kvs)) : NoR K C H (.ref a) := ⟨_, .base (.dK e), o.dict⟩
end
/-- every one of some values -/
inductive AllV (R : V → Prop) : List V → Prop
  | nil : AllV R []
  | cons {x : V} {xs : List V} : R x → AllV R xs → AllV R (x :: xs)
theorem AllV.mem {R : V → Prop} : ∀ {xs : List V}, AllV R xs → ∀ x ∈ xs, R x
  | _, .nil, x, h => by cases h
  | _, .cons r t, x, h => by
    rcases List.mem_cons.mp h with rfl | h
    · exact r
    · exact t.mem x h
theorem AllV.imp {R S : V → Prop} (h : ∀ x, R x → S x) : ∀ {xs : List V}, AllV R xs → AllV S xs
  | _, .nil => .nil
  | _, .cons r t => .cons (h _ r) (t.imp h)
/-! ### fractions -/
theorem eq_lowE {t b u d : Int} (h : LowE t b) (k : LowE u d) : (t = u ∧ b = d) ↔ t * d = u * b := by
  constructor
  · rintro ⟨rfl, rfl⟩
    rfl
  · intro e
    rcases h with h | ⟨rfl, rfl⟩ <;> rcases k with k | ⟨rfl, rfl⟩
    · exact low_same h k e
    · have := h.1
      omega
    · have := k.1
      omega
    · exact ⟨rfl, rfl⟩
theorem low_times {t b k : Int} (h : Low t b) (k0 : 0 < k) : lo (t * k) (b * k) = t ∧ lb (t * k) (b * k) = b := by
  have e := lo_same (n := t * k) (m := b * k) (k := t) (l := b) (Int.mul_pos h.1 k0) h.1 (by grind)
  rw [low_lo h, low_lb h] at e
  exact e
/-! ### promises -/
def spCompared : Sp := fun vs H Q _ => ∃ p1 p2 t b u d, vs = [.ref p1, .ref p2] ∧ Pr H p1 t b ∧ Pr H p2 u d ∧ LowE t b ∧ LowE u d ∧ Sm 1000 t ∧ Sm 1000 b ∧ Sm 1000 u ∧ Sm 1000 d ∧ ∀ H', Same H H' → Q (.bl true) H'
def spOdd (K : PySem.W.Frag) (C : Addr) : Sp := fun vs H Q _ => ∃ p c ns a g, vs = [.ref p] ∧ PenAt H p c ns a g ∧ a ≤ 99000 ∧
  ∀ v a' g' H', H' p = some (pen c a' g') → Keep p H H' → OddV K C H' v → v ≠ .ref p → a ≤ a' → a' ≤ a + 1 → Q v H'
def spOther : Sp := fun vs H Q _ => ∃ p q c ns a g t b, vs = [.ref p, .ref q] ∧ PenAt H p c ns a g ∧ a ≤ 98000 ∧ Pr H q t b ∧ Low t b ∧ Sm 100 t ∧ Sm 100 b ∧
  ∀ r u d a' g' H', H' p = some (pen c a' g') → Keep p H H' → Pr H' r u d → LowE u d → Sm 110 u → Sm 110 d → a ≤ a' → a' ≤ a + 6 → Q (.ref r) H'
def spRefX (T : List (Addr × Str)) : Sp := fun vs H Q _ => ∃ p c ns a g u l, vs = [.ref p, .int u, .int l] ∧ PenAt H p c ns a g ∧ a ≤ 98000 ∧ 0 < l ∧ Sm 1000 u ∧ Sm 1000 l ∧ Tabs T H ∧
  ∀ a' g' H', PenAt H' p c ns a' g' → a' ≤ a + 3 → Tabs T H' → Q (.bl true) H'
/-! ### a list of what was heard: errors with a field -/
def AtIs (H : Hp) (v : V) (k : Int) : Prop := ∃ z, v = .ref z ∧ H z = some (.tup [.str "ratio", .int k])
inductive EachA (R : V → Int → Prop) : List V → List Int → Prop
  | nil : EachA R [] []
  | cons {x : V} {o : Int} {xs : List V} {os : List Int} : R x o → EachA R xs os → EachA R (x :: xs) (o :: os)
theorem EachA.imp {R S : V → Int → Prop} (h : ∀ x o, R x o → S x o) : ∀ {xs : List V} {os : List Int}, EachA R xs os → EachA S xs os
  | _, _, .nil => .nil
  | _, _, .cons r e => .cons (h _ _ r) (e.imp h)
theorem EachA.app {R : V → Int → Prop} {ys : List V} {ps : List Int} (h : EachA R ys ps) : ∀ {xs : List V} {os : List Int}, EachA R xs os → EachA R (xs ++ ys) (os ++ ps)
  | _, _, .nil => h
  | _, _, .cons r e => .cons r (EachA.app h e)
theorem EachA.len {R : V → Int → Prop} : ∀ {xs : List V} {os : List Int}, EachA R xs os → xs.length = os.length
  | _, _, .nil => rfl
  | _, _, .cons _ e => congrArg Nat.succ e.len
def atD (k : Int) : PyData := .tuple [.str "ratio", .int k]
theorem AtIs.dp {K : PySem.W.Frag} {H : Hp} {v : V} {k : Int} (h : AtIs H v k) : Dp K H v (atD k) := by
  obtain ⟨z, e, h⟩ := h
  subst e
  exact .tup (SqT.of h) (.cons (.str _) (.cons (.int _) .nil))
theorem EachA.dp {K : PySem.W.Frag} {H : Hp} : ∀ {xs : List V} {os : List Int}, EachA (AtIs H) xs os → DpAll K H xs (os.map atD)
  | _, _, .nil => .nil
  | _, _, .cons r e => .cons r.dp e.dp
theorem AtIs.ext {H H' : Hp} {v : V} {k : Int} (h : AtIs H v k) (s : ExtN H H') : AtIs H' v k := h.elim fun z h => ⟨z, h.1, s _ _ h.2 fun _ y => by cases y⟩
theorem AtIs.same {H H' : Hp} {v : V} {k : Int} (h : AtIs H v k) (s : Same H H') : AtIs H' v k := h.elim fun z h => ⟨z, h.1, s _ _ h.2⟩
theorem AtIs.put {H : Hp} {v : V} {k : Int} {L : Addr} {xs ys : List V} (h : AtIs H v k) (hL : H L = some (.lst xs)) : AtIs (upd H L (.lst ys)) v k :=
  h.elim fun z h => ⟨z, h.1, (upd_ne (ne_of h.2 hL fun y => by cases y)).trans h.2⟩
/-- under way: the list L of what was heard so far -/
structure HSt (T : List (Addr × Str)) (H0 H : Hp) (L : Addr) (os : List Int) : Prop where
  ex : ExtN H0 H
  l0 : ∀ u, H0 L = some u → ∃ ps, u = .tbl ps
  ls : ∃ xs, H L = some (.lst xs) ∧ EachA (AtIs H) xs os
  tb : Tabs T H
theorem HSt.step {T : List (Addr × Str)} {H0 H H2 : Hp} {L q1 : Addr} {os : List Int} {k : Int} (S : HSt T H0 H L os) (e : ExtN H H2) (t2 : Tabs T H2) (z : AtIs H2 (.ref q1) k) :
    ∃ xs, H2 L = some (.lst xs) ∧ xs.length = os.length ∧ HSt T H0 (upd H2 L (.lst (xs ++ [.ref q1]))) L (os ++ [k]) := by
  obtain ⟨xs, h1, h2⟩ := S.ls
  have hL : H2 L = some (.lst xs) := e _ _ h1 fun _ y => by cases y
  refine ⟨xs, hL, h2.len, ?_, S.l0, ⟨_, upd_same, ?_⟩, tabs_mut t2 hL⟩
  · intro c u ec no
    rw [upd_ne fun y => by
      subst y
      obtain ⟨ps, y⟩ := S.l0 _ ec
      exact no _ y]
    exact e _ _ (S.ex _ _ ec no) no
  · exact EachA.app (.cons (z.put hL) .nil) (h2.imp fun v o r => (r.ext e).put hL)
theorem HSt.start {T : List (Addr × Str)} {H0 H : Hp} {L q1 : Addr} {k : Int} (e : ExtN H0 H) (tb : Tabs T H) (nL : H L = none) (z : AtIs H (.ref q1) k) : HSt T H0 (upd H L (.lst [.ref q1])) L [k] := by
  refine ⟨extN_same e (Same.new nL), fun u h => ?_, ⟨_, upd_same, .cons (z.same (Same.new nL)) .nil⟩, Tabs.same tb (Same.new nL)⟩
  cases u with
  | tbl ps => exact ⟨ps, rfl⟩
  | _ =>
    have := e _ _ h fun _ y => by cases y
    rw [nL] at this
    cases this
end RR
set_option maxHeartbeats 4000000
namespace RR
open PySem PySem.Spec PyProof.Rows L2
/-! ### ratios as rational numbers -/
theorem den_pos (q : Rat) : (0 : Int) < (q.den : Int) := by
  have := q.den_nz
  omega
theorem low_q (q : Rat) : Low q.num (q.den : Int) := ⟨den_pos q, by
  have h : q.num.natAbs.gcd q.den = 1 := q.reduced
  unfold gd
  rw [Int.natAbs_natCast, h]
  rfl⟩
theorem lo_rat {n d : Int} {q : Rat} (d0 : 0 < d) (e : Rat.divInt n d = q) : lo n d = q.num ∧ lb n d = (q.den : Int) := by
  have z : Rat.divInt n d = Rat.divInt q.num (q.den : Int) := by rw [e, Rat.num_divInt_den]
  have z2 := (Rat.divInt_eq_divInt_iff (by omega) (Int.ne_of_gt (den_pos q))).mp z
  have y := lo_same (n := n) (m := d) (k := q.num) (l := (q.den : Int)) d0 (den_pos q) z2
  rw [low_lo (low_q q), low_lb (low_q q)] at y
  exact y
theorem rat_add (q r : Rat) : lo (fAdd q.num q.den r.num r.den) (gAll q.num q.den r.num r.den) = (q + r).num ∧ lb (fAdd q.num q.den r.num r.den) (gAll q.num q.den r.num r.den) = ((q + r).den : Int) := by
  refine lo_rat (Int.mul_pos (den_pos q) (den_pos r)) ?_
  unfold fAdd gAll
  rw [← Rat.divInt_add_divInt _ _ (Int.ne_of_gt (den_pos q)) (Int.ne_of_gt (den_pos r)), Rat.num_divInt_den, Rat.num_divInt_den]
theorem rat_neg (q : Rat) : lo (-q.num) q.den = (-q).num ∧ lb (-q.num) q.den = ((-q).den : Int) := by
  refine lo_rat (den_pos q) ?_
  rw [← Rat.neg_divInt, Rat.num_divInt_den]
theorem rat_sub (q r : Rat) : lo (fSub q.num q.den r.num r.den) (gAll q.num q.den r.num r.den) = (q - r).num ∧ lb (fSub q.num q.den r.num r.den) (gAll q.num q.den r.num r.den) = ((q - r).den : Int) := by
  refine lo_rat (Int.mul_pos (den_pos q) (den_pos r)) ?_
  unfold fSub gAll
  rw [← Rat.divInt_sub_divInt _ _ (Int.ne_of_gt (den_pos q)) (Int.ne_of_gt (den_pos r)), Rat.num_divInt_den, Rat.num_divInt_den]
theorem rat_mul (q r : Rat) : lo (fMul q.num q.den r.num r.den) (gAll q.num q.den r.num r.den) = (q * r).num ∧ lb (fMul q.num q.den r.num r.den) (gAll q.num q.den r.num r.den) = ((q * r).den : Int) := by
  refine lo_rat (Int.mul_pos (den_pos q) (den_pos r)) ?_
  unfold fMul gAll
  rw [← Rat.divInt_mul_divInt, Rat.num_divInt_den, Rat.num_divInt_den]
/-! ### sizes -/
def SQ (n : Nat) (q : Rat) : Prop := Sm n q.num ∧ Sm n (q.den : Int)
theorem sq_mono {n m : Nat} {q : Rat} (h : SQ n q) (l : n ≤ m) : SQ m q := ⟨sm_mono h.1 l, sm_mono h.2 l⟩
theorem sq_of {n : Nat} {t b : Int} {q : Rat} (b0 : 0 < b) (e : lo t b = q.num ∧ lb t b = (q.den : Int)) (st : Sm n t) (sb : Sm n b) : SQ n q := by
  refine ⟨?_, ?_⟩
  · rw [← e.1]
    exact lo_small st b0
  · rw [← e.2]
    exact lb_small sb b0
theorem sq_add {n m : Nat} {q r : Rat} (h : SQ n q) (k : SQ m r) : SQ (n + m + 1) (q + r) := by
  refine sq_of (Int.mul_pos (den_pos q) (den_pos r)) (rat_add q r) ?_ (sm_mono (sm_mul h.2 k.2) (by omega))
  have e : m + n = n + m := Nat.add_comm m n
  exact sm_add (sm_mul h.1 k.2) (e ▸ sm_mul k.1 h.2)
theorem sq_mul {n m : Nat} {q r : Rat} (h : SQ n q) (k : SQ m r) : SQ (n + m) (q * r) := sq_of (Int.mul_pos (den_pos q) (den_pos r)) (rat_mul q r) (sm_mul h.1 k.1) (sm_mul h.2 k.2)
theorem sq_neg {n : Nat} {q : Rat} (h : SQ n q) : SQ n (-q) := sq_of (den_pos q) (rat_neg q) (sm_neg h.1) h.2
theorem sq_sub {n m : Nat} {q r : Rat} (h : SQ n q) (k : SQ m r) : SQ (n + m + 1) (q - r) := by
  rw [Rat.sub_eq_add_neg]
  exact sq_add h (sq_neg k)
theorem sq_int {n : Nat} {i : Int} (h : Sm n i) (n1 : 1 ≤ n) : SQ n (i : Rat) := ⟨by rw [Rat.num_intCast]; exact h, by rw [Rat.den_intCast]; exact sm_1 n1⟩
/-! ### the heap's ratios -/
def RQ (C : Addr) (H : Hp) (a : Addr) (q : Rat) : Prop := RatAt C H a q.num (q.den : Int)
theorem RQ.same {C : Addr} {H H' : Hp} {a : Addr} {q : Rat} (h : RQ C H a q) (s : Same H H') : RQ C H' a q := RatAt.same h s
/-- a Ratio, or an int that stands for one -/
def NQ (C : Addr) (H : Hp) (v : V) (q : Rat) : Prop := (∃ a, v = .ref a ∧ RQ C H a q) ∨ ∃ i : Int, v = .int i ∧ q = (i : Rat)
theorem NQ.same {C : Addr} {H H' : Hp} {v : V} {q : Rat} (h : NQ C H v q) (s : Same H H') : NQ C H' v q := by
  rcases h with ⟨a, e, r⟩ | h
  · exact .inl ⟨a, e, r.same s⟩
  · exact .inr h
theorem NQ.num {C : Addr} {H : Hp} {v : V} {q : Rat} (h : NQ C H v q) : NumV C H v q.num (q.den : Int) := by
  rcases h with ⟨a, e, r⟩ | ⟨i, e, rfl⟩
  · exact .inl ⟨a, e, r⟩
  · exact .inr ⟨by rw [Rat.num_intCast]; exact e, by rw [Rat.den_intCast]; rfl⟩
theorem RQ.n {C : Addr} {H : Hp} {a : Addr} {q : Rat} (h : RQ C H a q) : NQ C H (.ref a) q := .inl ⟨a, rfl, h⟩
theorem nq_int {C : Addr} {H : Hp} (i : Int) : NQ C H (.int i) (i : Rat) := .inr ⟨i, rfl, rfl⟩
/-- what a new Ratio is -/
abbrev NewQ (C : Addr) (H : Hp) (Q : VK) (q : Rat) : Prop := ∀ a H', Same H H' → RQ C H' a q → Q (.ref a) H'
end RR
set_option maxHeartbeats 4000000
namespace RR
open PySem PySem.Spec PyProof.Rows L2
/-! ### reckoning with rational numbers -/
section
variable {C N : Addr} {H : Hp} {Q : VK} {E : XK} {x : Addr} {y : V} {q r : Rat} {n m : Nat} {i : Int}
theorem addL (a : RQ C H x q) (b : NQ C H y r) (sq : SQ n q) (sr : SQ m r) (hn : n ≤ 1000) (hm : m ≤ 1000) (k : NewQ C H Q (q + r)) : rOpL C (spBin C fAdd gAll) E (.ref x) y H Q :=
  opL a b.num (den_pos q) (den_pos r) (sm_mono sq.1 hn) (sm_mono sq.2 hn) (sm_mono sr.1 hm) (sm_mono sr.2 hm) fun c H' s z => k c H' s (by rw [(rat_add q r).1, (rat_add q r).2] at z; exact z)
theorem subL (a : RQ C H x q) (b : NQ C H y r) (sq : SQ n q) (sr : SQ m r) (hn : n ≤ 1000) (hm : m ≤ 1000) (k : NewQ C H Q (q - r)) : rOpL C (spBin C fSub gAll) E (.ref x) y H Q :=
  opL a b.num (den_pos q) (den_pos r) (sm_mono sq.1 hn) (sm_mono sq.2 hn) (sm_mono sr.1 hm) (sm_mono sr.2 hm) fun c H' s z => k c H' s (by rw [(rat_sub q r).1, (rat_sub q r).2] at z; exact z)
theorem mulL (a : RQ C H x q) (b : NQ C H y r) (sq : SQ n q) (sr : SQ m r) (hn : n ≤ 1000) (hm : m ≤ 1000) (k : NewQ C H Q (q * r)) : rOpL C (spBin C fMul gAll) E (.ref x) y H Q :=
  opL a b.num (den_pos q) (den_pos r) (sm_mono sq.1 hn) (sm_mono sq.2 hn) (sm_mono sr.1 hm) (sm_mono sr.2 hm) fun c H' s z => k c H' s (by rw [(rat_mul q r).1, (rat_mul q r).2] at z; exact z)
theorem addR (a : RQ C H x q) (sq : SQ n q) (si : Sm m i) (hn : n ≤ 1000) (hm : m ≤ 1000) (k : NewQ C H Q ((i : Rat) + q)) : rOpR C (spBin C fAdd gAll) E (.int i) (.ref x) H Q :=
  opR a (den_pos q) (sm_mono sq.1 hn) (sm_mono sq.2 hn) (sm_mono si hm) fun c H' s z => k c H' s (by
    have e := rat_add q (i : Rat)
    rw [Rat.num_intCast, Rat.den_intCast] at e
    rw [show fAdd q.num q.den i 1 = fAdd q.num q.den i ((1 : Nat) : Int) from rfl, show gAll q.num q.den i 1 = gAll q.num q.den i ((1 : Nat) : Int) from rfl, e.1, e.2, Rat.add_comm] at z
    exact z)
theorem mulR (a : RQ C H x q) (sq : SQ n q) (si : Sm m i) (hn : n ≤ 1000) (hm : m ≤ 1000) (k : NewQ C H Q ((i : Rat) * q)) : rOpR C (spBin C fMul gAll) E (.int i) (.ref x) H Q :=
  opR a (den_pos q) (sm_mono sq.1 hn) (sm_mono sq.2 hn) (sm_mono si hm) fun c H' s z => k c H' s (by
    have e := rat_mul q (i : Rat)
    rw [Rat.num_intCast, Rat.den_intCast] at e
    rw [show fMul q.num q.den i 1 = fMul q.num q.den i ((1 : Nat) : Int) from rfl, show gAll q.num q.den i 1 = gAll q.num q.den i ((1 : Nat) : Int) from rfl, e.1, e.2, Rat.mul_comm] at z
    exact z)
theorem subR (a : RQ C H x q) (sq : SQ n q) (si : Sm m i) (hn : n ≤ 1000) (hm : m ≤ 1000) (k : NewQ C H Q ((i : Rat) - q)) : rOpR C (spBin C fRsub gRev) E (.int i) (.ref x) H Q :=
  opR a (den_pos q) (sm_mono sq.1 hn) (sm_mono sq.2 hn) (sm_mono si hm) fun c H' s z => k c H' s (by
    have e := rat_sub (i : Rat) q
    rw [Rat.num_intCast, Rat.den_intCast] at e
    rw [show fRsub q.num q.den i 1 = fSub i ((1 : Nat) : Int) q.num q.den from rfl, show gRev q.num q.den i 1 = gAll i ((1 : Nat) : Int) q.num q.den from rfl, e.1, e.2] at z
    exact z)
theorem negQ (a : RQ C H x q) (sq : SQ n q) (hn : n ≤ 1000) (k : NewQ C H Q (-q)) : rNegO C (spNeg C) E (.ref x) H Q := by
  obtain ⟨dx, e⟩ := id a
  exact ⟨⟨x, dx, _, rfl, e⟩, x, _, _, rfl, a, den_pos q, sm_mono sq.1 hn, sm_mono sq.2 hn, fun c H' s z => k c H' s (by rw [(rat_neg q).1, (rat_neg q).2] at z; exact z)⟩
def qabs (q : Rat) : Rat := if q < 0 then -q else q
theorem num_lt (q : Rat) : q.num < 0 ↔ q < 0 := by
  rw [Rat.lt_iff]
  simp
theorem qabs_num (q : Rat) : (if q.num < 0 then -q.num else q.num) = (qabs q).num ∧ q.den = (qabs q).den := by
  unfold qabs
  by_cases z : q < 0
  · rw [if_pos z, if_pos ((num_lt q).mpr z), Rat.neg_num, Rat.neg_den]
    exact ⟨rfl, rfl⟩
  · rw [if_neg z, if_neg (fun y => z ((num_lt q).mp y))]
    exact ⟨rfl, rfl⟩
theorem absQ (a : RQ C H x q) (sq : SQ n q) (hn : n ≤ 1000) (k : NewQ C H Q (qabs q)) : rAbsO C (spAbs C) E [.ref x] H Q := by
  obtain ⟨dx, e⟩ := id a
  exact ⟨⟨x, dx, _, rfl, e⟩, x, _, _, rfl, a, low_q q, sm_mono sq.1 hn, sm_mono sq.2 hn, fun c H' s z => k c H' s (by rw [(qabs_num q).1, (qabs_num q).2] at z; exact z)⟩
theorem sq_abs (h : SQ n q) : SQ n (qabs q) := by
  unfold qabs
  split
  · exact sq_neg h
  · exact h
/-! ### the order -/
theorem cmpL {R : Int → Int → Bool} (a : RQ C H x q) (b : NQ C H y r) (sq : SQ n q) (sr : SQ m r) (hn : n ≤ 1000) (hm : m ≤ 1000) (k : ∀ H', Same H H' → Q (.bl (R (q.num * r.den) (r.num * q.den))) H') : rOpL C (spCmp C R) E (.ref x) y H Q := by
  obtain ⟨dx, e⟩ := id a
  exact ⟨⟨x, dx, _, rfl, e⟩, b.num.intOr, x, y, _, _, _, _, rfl, a, b.num, sm_mono sq.1 hn, sm_mono sq.2 hn, sm_mono sr.1 hm, sm_mono sr.2 hm, k⟩
theorem cmpR {R : Int → Int → Bool} (a : RQ C H x q) (sq : SQ n q) (si : Sm m i) (hn : n ≤ 1000) (hm : m ≤ 1000) (k : ∀ H', Same H H' → Q (.bl (R (q.num * 1) (i * q.den))) H') : rOpR C (spCmp C R) E (.int i) (.ref x) H Q := by
  obtain ⟨dx, e⟩ := id a
  exact ⟨⟨i, rfl⟩, ⟨x, dx, _, rfl, e⟩, x, .int i, _, _, i, 1, rfl, a, .inr ⟨rfl, rfl⟩, sm_mono sq.1 hn, sm_mono sq.2 hn, sm_mono si hm, sm_1 (by decide), k⟩
theorem ltL (a : RQ C H x q) (b : NQ C H y r) (sq : SQ n q) (sr : SQ m r) (hn : n ≤ 1000) (hm : m ≤ 1000) (k : ∀ H', Same H H' → Q (.bl (decide (q < r))) H') : rOpL C (spCmp C fun i j => decide (i < j)) E (.ref x) y H Q :=
  cmpL a b sq sr hn hm fun H' s => by
    have e : decide (q.num * (r.den : Int) < r.num * (q.den : Int)) = decide (q < r) := decide_eq_decide.mpr (Rat.lt_iff q r).symm
    show Q (.bl (decide (q.num * (r.den : Int) < r.num * (q.den : Int)))) H'
    rw [e]
    exact k H' s
theorem leL (a : RQ C H x q) (b : NQ C H y r) (sq : SQ n q) (sr : SQ m r) (hn : n ≤ 1000) (hm : m ≤ 1000) (k : ∀ H', Same H H' → Q (.bl (decide (q ≤ r))) H') : rOpL C (spCmp C fun i j => decide (i ≤ j)) E (.ref x) y H Q :=
  cmpL a b sq sr hn hm fun H' s => by
    have e : decide (q.num * (r.den : Int) ≤ r.num * (q.den : Int)) = decide (q ≤ r) := decide_eq_decide.mpr (Rat.le_iff q r).symm
    show Q (.bl (decide (q.num * (r.den : Int) ≤ r.num * (q.den : Int)))) H'
    rw [e]
    exact k H' s
theorem gtL (a : RQ C H x q) (b : NQ C H y r) (sq : SQ n q) (sr : SQ m r) (hn : n ≤ 1000) (hm : m ≤ 1000) (k : ∀ H', Same H H' → Q (.bl (decide (r < q))) H') : rOpL C (spCmp C fun i j => decide (i > j)) E (.ref x) y H Q :=
  cmpL a b sq sr hn hm fun H' s => by
    have e : decide (q.num * (r.den : Int) > r.num * (q.den : Int)) = decide (r < q) := decide_eq_decide.mpr (Rat.lt_iff r q).symm
    show Q (.bl (decide (q.num * (r.den : Int) > r.num * (q.den : Int)))) H'
    rw [e]
    exact k H' s
theorem geL (a : RQ C H x q) (b : NQ C H y r) (sq : SQ n q) (sr : SQ m r) (hn : n ≤ 1000) (hm : m ≤ 1000) (k : ∀ H', Same H H' → Q (.bl (decide (r ≤ q))) H') : rOpL C (spCmp C fun i j => decide (i ≥ j)) E (.ref x) y H Q :=
  cmpL a b sq sr hn hm fun H' s => by
    have e : decide (q.num * (r.den : Int) ≥ r.num * (q.den : Int)) = decide (r ≤ q) := decide_eq_decide.mpr (Rat.le_iff r q).symm
    show Q (.bl (decide (q.num * (r.den : Int) ≥ r.num * (q.den : Int)))) H'
    rw [e]
    exact k H' s
/-- i < x by x's >, i <= x by x's >= -/
theorem ltR (a : RQ C H x q) (sq : SQ n q) (si : Sm m i) (hn : n ≤ 1000) (hm : m ≤ 1000) (k : ∀ H', Same H H' → Q (.bl (decide ((i : Rat) < q))) H') : rOpR C (spCmp C fun i j => decide (i > j)) E (.int i) (.ref x) H Q :=
  cmpR a sq si hn hm fun H' s => by
    have e : decide (q.num * 1 > i * (q.den : Int)) = decide ((i : Rat) < q) := decide_eq_decide.mpr (by rw [Rat.lt_iff, Rat.num_intCast, Rat.den_intCast]; exact Iff.rfl)
    show Q (.bl (decide (q.num * 1 > i * (q.den : Int)))) H'
    rw [e]
    exact k H' s
theorem leR (a : RQ C H x q) (sq : SQ n q) (si : Sm m i) (hn : n ≤ 1000) (hm : m ≤ 1000) (k : ∀ H', Same H H' → Q (.bl (decide ((i : Rat) ≤ q))) H') : rOpR C (spCmp C fun i j => decide (i ≥ j)) E (.int i) (.ref x) H Q :=
  cmpR a sq si hn hm fun H' s => by
    have e : decide (q.num * 1 ≥ i * (q.den : Int)) = decide ((i : Rat) ≤ q) := decide_eq_decide.mpr (by rw [Rat.le_iff, Rat.num_intCast, Rat.den_intCast]; exact Iff.rfl)
    show Q (.bl (decide (q.num * 1 ≥ i * (q.den : Int)))) H'
    rw [e]
    exact k H' s
theorem rat_eq (q r : Rat) : (q.num = r.num ∧ (q.den : Int) = (r.den : Int)) ↔ q = r := by
  constructor
  · rintro ⟨h1, h2⟩
    exact Rat.ext h1 (by exact_mod_cast h2)
  · rintro rfl
    exact ⟨rfl, rfl⟩
theorem eqQ {K : PySem.W.Frag} {c : Addr} (T : RC K C) (a : RQ C H x q) (b : RQ C H c r) (k : Q (.bl (decide (q = r))) H) : rCmpY K C (spEqA K C) E (.ref x) (.ref c) H Q := by
  obtain ⟨dx, e⟩ := id a
  obtain ⟨dy, f⟩ := id b
  refine ⟨x, dx, _, _, rfl, e, T.ty f, by simp [PySem.W.notFirst], x, _, _, .ref c, rfl, a, .inl ⟨c, _, _, rfl, b, ?_⟩⟩
  rw [decide_eq_decide.mpr (rat_eq q r)]
  exact k
theorem neQ {K : PySem.W.Frag} {c : Addr} (T : RC K C) (a : RQ C H x q) (b : RQ C H c r) (k : Q (.bl (!decide (q = r))) H) : rNeY K C (spEqA K C) E (.ref x) (.ref c) H Q := by
  obtain ⟨dx, e⟩ := id a
  obtain ⟨dy, f⟩ := id b
  refine ⟨x, dx, _, _, rfl, e, T.ty f, by simp [PySem.W.notFirst], x, _, _, .ref c, rfl, a, .inl ⟨c, _, _, rfl, b, _, rfl, ?_⟩⟩
  rw [decide_eq_decide.mpr (rat_eq q r)]
  exact k
end
end RR
set_option maxHeartbeats 4000000
namespace RR
open PySem PySem.Spec PyProof.Rows L2
/-! ### quotients and rests of rational numbers -/
theorem q_div (q : Rat) : q = (q.num : Rat) / ((q.den : Int) : Rat) := by rw [← Rat.divInt_eq_div, Rat.num_divInt_den]
theorem den_ne (q : Rat) : ((q.den : Int) : Rat) ≠ 0 := by
  intro z
  have h := den_pos q
  have y : ((q.den : Int) : Rat) = ((0 : Int) : Rat) := z
  rw [Rat.intCast_inj] at y
  omega
theorem num_ne {q : Rat} (h : q ≠ 0) : (q.num : Rat) ≠ 0 := by
  intro z
  refine h ?_
  rw [q_div q, z]
  grind
theorem num_ne' {q : Rat} (h : q ≠ 0) : q.num ≠ 0 := fun z => num_ne h (by rw [z]; rfl)
theorem pure_div1 (t b u d : Rat) (hb : b ≠ 0) (hd : d ≠ 0) (hu : u ≠ 0) : (-t * d) / (-u * b) = (t / b) / (u / d) := by grind
theorem pure_div2 (t b u d : Rat) (hb : b ≠ 0) (hd : d ≠ 0) (hu : u ≠ 0) : (t * d) / (u * b) = (t / b) / (u / d) := by grind
theorem rat_over (q r : Rat) (h : r ≠ 0) : lo (qT q.num q.den r.num r.den) (qB q.num q.den r.num r.den) = (q / r).num ∧ lb (qT q.num q.den r.num r.den) (qB q.num q.den r.num r.den) = ((q / r).den : Int) := by
  refine lo_rat (qB_pos (den_pos q) (num_ne' h)) ?_
  rw [Rat.divInt_eq_div]
  unfold qT qB
  split
  · rw [Rat.intCast_mul, Rat.intCast_mul, Rat.intCast_neg, Rat.intCast_neg, pure_div1 _ _ _ _ (den_ne q) (den_ne r) (num_ne h), ← q_div q, ← q_div r]
  · rw [Rat.intCast_mul, Rat.intCast_mul, pure_div2 _ _ _ _ (den_ne q) (den_ne r) (num_ne h), ← q_div q, ← q_div r]
theorem sq_over {n m : Nat} {q r : Rat} (h : SQ n q) (k : SQ m r) (r0 : r ≠ 0) : SQ (n + m) (q / r) := by
  refine sq_of (qB_pos (den_pos q) (num_ne' r0)) (rat_over q r r0) ?_ ?_
  · unfold qT
    split
    · exact sm_mul (sm_neg h.1) k.2
    · exact sm_mul h.1 k.2
  · unfold qB
    have e : m + n = n + m := Nat.add_comm m n
    split
    · exact e ▸ sm_mul (sm_neg k.1) h.2
    · exact e ▸ sm_mul k.1 h.2
/-- the whole quotient -/
def qdiv (q r : Rat) : Int := (q.num * (r.den : Int)).fdiv ((q.den : Int) * r.num)
/-- a rest as it is to be -/
def InR (s r : Rat) : Prop := (0 < r → 0 ≤ s ∧ s < r) ∧ (r < 0 → r < s ∧ s ≤ 0)
theorem num_pos (q : Rat) : 0 < q.num ↔ 0 < q := by
  rw [Rat.lt_iff]
  simp
theorem q_num (q : Rat) : (q.num : Rat) = q * ((q.den : Int) : Rat) := by
  have h := q_div q
  have d := den_ne q
  generalize (q.num : Rat) = t at *
  generalize ((q.den : Int) : Rat) = b at *
  grind
theorem cast_pos (q : Rat) : 0 < ((q.den : Int) : Rat) := by
  have h := den_pos q
  exact Rat.intCast_lt_intCast.mpr h
theorem fmod_neg {a b : Int} (h : b < 0) : b < a.fmod b ∧ a.fmod b ≤ 0 := by
  have e : (-a).fmod (-b) = -(a.fmod b) := by
    rw [Int.fmod_def, Int.fmod_def, Int.neg_fdiv_neg]
    grind
  have h1 := Int.fmod_nonneg_of_pos (-a) (show 0 < -b by omega)
  have h2 := Int.fmod_lt_of_pos (-a) (show 0 < -b by omega)
  omega
theorem rest_eq (q r : Rat) : (q - r * (qdiv q r : Rat)) * (((q.den : Int) : Rat) * ((r.den : Int) : Rat)) = (((q.num * (r.den : Int)).fmod ((q.den : Int) * r.num) : Int) : Rat) := by
  rw [Int.fmod_def]
  show _ = (((q.num * (r.den : Int)) - ((q.den : Int) * r.num) * qdiv q r : Int) : Rat)
  rw [Rat.intCast_sub, Rat.intCast_mul, Rat.intCast_mul, Rat.intCast_mul, q_num q, q_num r]
  generalize ((qdiv q r : Int) : Rat) = k
  generalize ((q.den : Int) : Rat) = b
  generalize ((r.den : Int) : Rat) = d
  grind
theorem pure_in {s r p m u : Rat} (p0 : 0 < p) (e : s * p = m) (f : r * p = u) : (0 ≤ m → 0 ≤ s) ∧ (m < u → s < r) ∧ (m ≤ 0 → s ≤ 0) ∧ (u < m → r < s) := by
  refine ⟨fun h => ?_, fun h => ?_, fun h => ?_, fun h => ?_⟩
  · refine Classical.byContradiction fun z => ?_
    have y := Rat.mul_lt_mul_of_pos_left (show s < 0 by grind) p0
    grind
  · refine Classical.byContradiction fun z => ?_
    have y := Rat.mul_le_mul_of_nonneg_left (show r ≤ s by grind) (show 0 ≤ p by grind)
    grind
  · refine Classical.byContradiction fun z => ?_
    have y := Rat.mul_lt_mul_of_pos_left (show 0 < s by grind) p0
    grind
  · refine Classical.byContradiction fun z => ?_
    have y := Rat.mul_le_mul_of_nonneg_left (show s ≤ r by grind) (show 0 ≤ p by grind)
    grind
theorem qdiv_in (q r : Rat) : InR (q - r * (qdiv q r : Rat)) r := by
  have e := rest_eq q r
  have p0 : 0 < ((q.den : Int) : Rat) * ((r.den : Int) : Rat) := Rat.mul_pos (cast_pos q) (cast_pos r)
  have f : r * (((q.den : Int) : Rat) * ((r.den : Int) : Rat)) = ((((q.den : Int) * r.num : Int)) : Rat) := by
    rw [Rat.intCast_mul, q_num r]
    generalize ((q.den : Int) : Rat) = b
    generalize ((r.den : Int) : Rat) = d
    grind
  obtain ⟨h1, h2, h3, h4⟩ := pure_in p0 e f
  constructor
  · intro r0
    have u0 : 0 < (q.den : Int) * r.num := Int.mul_pos (den_pos q) ((num_pos r).mpr r0)
    exact ⟨h1 (Rat.intCast_le_intCast.mpr (Int.fmod_nonneg_of_pos _ u0)), h2 (Rat.intCast_lt_intCast.mpr (Int.fmod_lt_of_pos _ u0))⟩
  · intro r0
    have u0 : (q.den : Int) * r.num < 0 := Int.mul_neg_of_pos_of_neg (den_pos q) ((num_lt r).mpr r0)
    have z := fmod_neg (a := q.num * (r.den : Int)) u0
    exact ⟨h4 (Rat.intCast_lt_intCast.mpr z.1), h3 (Rat.intCast_le_intCast.mpr z.2)⟩
theorem one_le_of {k l : Int} (h : k < l) : (k : Rat) + 1 ≤ (l : Rat) := by
  have z : ((k + 1 : Int) : Rat) ≤ (l : Rat) := Rat.intCast_le_intCast.mpr h
  rw [Rat.intCast_add] at z
  exact z
theorem in_unique {q r : Rat} {k l : Int} (r0 : r ≠ 0) (h : InR (q - r * (k : Rat)) r) (g : InR (q - r * (l : Rat)) r) : k = l := by
  refine Classical.byContradiction fun z => ?_
  have pos : ∀ {k l : Int}, k < l → InR (q - r * (k : Rat)) r → InR (q - r * (l : Rat)) r → False := by
    intro k l kl h g
    have y := one_le_of kl
    by_cases s : 0 < r
    · have m := Rat.mul_le_mul_of_nonneg_left y (show 0 ≤ r by grind)
      have := h.1 s
      have := g.1 s
      grind
    · have n0 : r < 0 := by grind
      have m := Rat.mul_le_mul_of_nonneg_left y (show 0 ≤ -r by grind)
      have := h.2 n0
      have := g.2 n0
      grind
  rcases Int.lt_or_gt_of_ne z with y | y
  · exact pos y h g
  · exact pos y g h
theorem qdiv_is {q r : Rat} {k : Int} (r0 : r ≠ 0) (h : InR (q - r * (k : Rat)) r) : qdiv q r = k := in_unique r0 (qdiv_in q r) h
end RR
set_option maxHeartbeats 4000000
namespace RR
open PySem PySem.Spec PyProof.Rows L2
def spMod2 (C N : Addr) : Sp := fun vs H Q E => ∃ x y t b u d, vs = [.ref x, y] ∧ RatAt C H x t b ∧ NumV C H y u d ∧ 0 < b ∧ 0 < d ∧ Sm 250 t ∧ Sm 250 b ∧ Sm 250 u ∧ Sm 250 d ∧
  (u ≠ 0 → NewR C H Q (lo (rT t b u d ((t * d).fdiv (b * u))) (b * d)) (lb (rT t b u d ((t * d).fdiv (b * u))) (b * d))) ∧ (u = 0 → ∀ H', Same H H' → E (.ref N) none H')
theorem rat_rest (q r : Rat) (k : Int) : lo (rT q.num q.den r.num r.den k) ((q.den : Int) * (r.den : Int)) = (q - r * (k : Rat)).num ∧ lb (rT q.num q.den r.num r.den k) ((q.den : Int) * (r.den : Int)) = ((q - r * (k : Rat)).den : Int) := by
  refine lo_rat (Int.mul_pos (den_pos q) (den_pos r)) ?_
  rw [Rat.divInt_eq_div]
  unfold rT
  rw [Rat.intCast_sub, Rat.intCast_mul, Rat.intCast_mul, Rat.intCast_mul, Rat.intCast_mul, q_num q, q_num r]
  have hb := den_ne q
  have hd := den_ne r
  generalize ((q.den : Int) : Rat) = b at *
  generalize ((r.den : Int) : Rat) = d at *
  generalize (k : Rat) = l
  grind
theorem sm_qdiv {n m : Nat} {q r : Rat} (h : SQ n q) (k : SQ m r) : Sm (n + m) (qdiv q r) := sm_fdiv (sm_mul h.1 k.2)
theorem sq_rest {n m : Nat} {q r : Rat} (h : SQ n q) (k : SQ m r) : SQ (n + m + m + n + 1) (q - r * (qdiv q r : Rat)) := by
  refine sq_of (Int.mul_pos (den_pos q) (den_pos r)) (rat_rest q r (qdiv q r)) ?_ (sm_mono (sm_mul h.2 k.2) (by omega))
  unfold rT
  exact sm_sub (sm_mono (sm_mul h.1 k.2) (by omega)) (sm_mul (sm_mul (sm_qdiv h k) k.1) h.2)
section
variable {C N : Addr} {H : Hp} {Q : VK} {E : XK} {x : Addr} {y : V} {q r : Rat} {n m : Nat} {i : Int}
theorem overQ (a : RQ C H x q) (b : NQ C H y r) (r0 : r ≠ 0) (sq : SQ n q) (sr : SQ m r) (hn : n ≤ 1000) (hm : m ≤ 1000) (k : NewQ C H Q (q / r)) : spOver C N [.ref x, y] H Q E :=
  ⟨x, y, _, _, _, _, rfl, a, b.num, den_pos q, den_pos r, sm_mono sq.1 hn, sm_mono sq.2 hn, sm_mono sr.1 hm, sm_mono sr.2 hm, fun _ c H' s z => k c H' s (by rw [(rat_over q r r0).1, (rat_over q r r0).2] at z; exact z), fun z => absurd z (num_ne' r0)⟩
theorem fdivQ (a : RQ C H x q) (b : NQ C H y r) (r0 : r ≠ 0) (sq : SQ n q) (sr : SQ m r) (hn : n ≤ 1000) (hm : m ≤ 1000) (k : ∀ H', Same H H' → Q (.int (qdiv q r)) H') : rOpL C (spFdiv C N) E (.ref x) y H Q := by
  obtain ⟨dx, e⟩ := id a
  exact ⟨⟨x, dx, _, rfl, e⟩, b.num.intOr, x, y, _, _, _, _, rfl, a, b.num, den_pos q, den_pos r, sm_mono sq.1 hn, sm_mono sq.2 hn, sm_mono sr.1 hm, sm_mono sr.2 hm, fun _ H' s => k H' s, fun z => absurd z (num_ne' r0)⟩
theorem modQ (a : RQ C H x q) (b : NQ C H y r) (r0 : r ≠ 0) (sq : SQ n q) (sr : SQ m r) (hn : n ≤ 250) (hm : m ≤ 250) (k : NewQ C H Q (q - r * (qdiv q r : Rat))) : rOpL C (spMod2 C N) E (.ref x) y H Q := by
  obtain ⟨dx, e⟩ := id a
  exact ⟨⟨x, dx, _, rfl, e⟩, b.num.intOr, x, y, _, _, _, _, rfl, a, b.num, den_pos q, den_pos r, sm_mono sq.1 hn, sm_mono sq.2 hn, sm_mono sr.1 hm, sm_mono sr.2 hm,
    fun _ c H' s z => k c H' s (by
      have e := rat_rest q r (qdiv q r)
      have z' : RatAt C H' c (lo (rT q.num q.den r.num r.den (qdiv q r)) ((q.den : Int) * (r.den : Int))) (lb (rT q.num q.den r.num r.den (qdiv q r)) ((q.den : Int) * (r.den : Int))) := z
      rw [e.1, e.2] at z'
      exact z'), fun z => absurd z (num_ne' r0)⟩
end
end RR
set_option maxHeartbeats 4000000
namespace RR
open PySem PySem.Spec PyProof.Rows L2 PyProof.Rows.LSm
/-! ### any of a list of bools -/
def rAnyB : List V → Hp → VK → Prop := fun xs H Q => ∃ (a : Addr) (bs : List Bool), xs = [.ref a] ∧ H a = some (.lst (bs.map V.bl)) ∧ Q (.bl (bs.any id)) H
theorem vals_bls : ∀ {bs : List Bool} {us : List Value}, Vals (bs.map V.bl) us → BoolsAre us bs := by
  intro bs
  induction bs with
  | nil => intro us h; cases h; exact .nil
  | cons b bs ih =>
    intro us h
    cases h with
    | cons r t =>
      obtain rfl := (show _ = Value.bool b from r)
      exact .cons b (ih t)
theorem call_anyB {X : Cx} (hc : X.calm = true) : CallR X (.builtin "any") rAnyB := by
  intro pins s σ H xs us Q I rv h
  obtain ⟨a, bs, rfl, e, q⟩ := h
  obtain ⟨u, rfl, ru⟩ := vals1 rv
  obtain rfl : u = .ref a := ru
  obtain ⟨_, its, n, rI, hg⟩ := (show ObjOk X.prog X.w H s.heap a (.lst _) from I.hok a _ e)
  have hb := vals_bls rI
  have hl : s.heap.IsList a its.toArray := ⟨_, hg, rfl, _, rfl⟩
  have hlt : a < s.heap.objs.size := Heap.lt_size hg
  refine call_any_walk (wpAny_pyIter_list hl ?_)
  refine ⟨s.heap.objs.size, [s.heap.objs.size, a], [s.heap.objs.size], its.toArray.size, _, _, fun i => (bs[i]?).getD false, rfl, Walks.list (A := X.A.in1) (I.ok.hd hc) _ a (Nat.ne_of_lt hlt) its.toArray,
    ⟨⟨_, Heap.get?_push_size _ rfl, rfl, rfl⟩, hl.push _⟩, fun i v s' Q' E' hP hQ => ?_, fun h' tk hk => ?_⟩
  · obtain ⟨b, e, rfl⟩ := hb.get i v (by simpa using hP)
    simp only [e, Option.getD_some] at hQ
    exact wpAny_truthy_bool hQ
  · have e : ((List.range its.toArray.size).any fun i => (bs[i]?).getD false) = bs.any id := by
      rw [List.size_toArray, hb.length]; exact range_any bs
    rw [e]
    refine ⟨.bl _, H, I.kept fun b u z => ?_, rfl, q⟩
    exact kept_iter hk b u z
/-! ### x in a list, by the class's own == -/
open MeetsSeq MeetsSeq2 SeqRoads2 in
open AutoSeq1 (wpAny_loadPart') in
theorem contains_loopJ {prog : Program} {w : World} {J : Shared → Prop} {l : Addr} {items : Array Value} {x : Value} {e : Value → Bool} {A : Around} {E : Value → Shared → Prop} {R : Result → Shared → Prop}
    (hJ : ∀ s, J s → ∃ n, s.heap.get? l = some { cls := .type "list", data := .seq items n })
    (he : ∀ y, y ∈ items → ∀ (Q : Bool → Shared → Prop) s, J s → (∀ s', J s' → Q (e y) s') → wpAny (model prog w) A.in1 (eqBool y x) Q E s)
    (hE : ∀ v s, E v s → R (.error v) s) (k : Nat) :
    ∀ i : Nat, items.size - i = k → ∀ s, J s → (∀ s', J s' → R (.ok (.ret (.bool ((items.toList.drop i).any e)))) s') →
      wpAny (model prog w) A.in1 (Builtin.«list.__contains__.loop» ⟨[.ref l, x, rawInt i], []⟩)
        (fun fin s' => match fin with | .done f => R (.ok f) s' | .again c' => c'.quiet = true ∧ codeAny (model prog w) A c' R s') (fun e s' => R (.error e) s') s := by
  induction k with
  | zero =>
    intro i hk s hs h
    obtain ⟨n, hl⟩ := hJ s hs
    have h1 := h s hs
    clear h
    obtain ⟨hp, g, d, tk, os⟩ := s
    wp_walk using wpAny_loadPart' hl
    have hi : items[((i : Nat) : Int).toNat]? = none := by simp; omega
    have hd : items.toList.drop i = [] := by simp; omega
    rw [hd] at h1
    rw [hi]
    wp_walk
    exact h1
  | succ k ih =>
    intro i hk s hs h
    obtain ⟨n, hl⟩ := hJ s hs
    have hlt : i < items.size := by omega
    have hi : items[((i : Nat) : Int).toNat]? = some items[i] := by simp [hlt]
    have hd : items.toList.drop i = items[i] :: items.toList.drop (i + 1) := by simp [List.drop_eq_getElem_cons, hlt]
    obtain ⟨hp, g, d, tk, os⟩ := s
    wp_walk using wpAny_loadPart' hl
    rw [hd, List.any_cons] at h
    rw [hi]
    refine wpAny_bind (wpAny_mono (he _ (Array.getElem_mem hlt) (fun b s' => J s' ∧ b = e items[i]) _ hs fun s' j => ⟨j, rfl⟩) (fun b s' hb => ?_) fun v s' z => hE v s' z)
    obtain ⟨hs', rfl⟩ := hb
    cases hb : e items[i] with
    | true =>
      rw [hb] at h
      have h1 := h s' hs'
      wp_walk
      exact h1
    | false =>
      rw [hb] at h
      have hc : ((i : Int) + 1) = ((i + 1 : Nat) : Int) := by push_cast; rfl
      wp_walk
      rw [hc]
      exact ⟨plainId_quiet plain_contains_loop _, codeAny_builtin entry_contains_loop (by
        rw [Around.under_plainId plain_contains_loop _]
        exact ih (i + 1) (by omega) s' hs' (by simpa using h))⟩

open MeetsSeq MeetsSeq2 SeqRoads2 in
open AutoSeq1 (wpAny_loadPart') in
theorem list_containsJ {prog : Program} {w : World} {J : Shared → Prop} {l : Addr} {items : Array Value} {x : Value} {e : Value → Bool}
    (hJ : ∀ s, J s → ∃ n, s.heap.get? l = some { cls := .type "list", data := .seq items n }) :
    MeetsIn prog w (Builtin.«list.__contains__» ⟨[.ref l, x], []⟩) fun A R s => J s ∧
      (∀ y, y ∈ items → ∀ (Q : Bool → Shared → Prop) s, J s → (∀ s', J s' → Q (e y) s') → wpAny (model prog w) A.in1 (eqBool y x) Q (fun v s' => R (.error v) s') s) ∧
      ∀ s', J s' → R (.ok (.ret (.bool (items.any e)))) s' := by
  rintro A R s ⟨hs, he, h⟩
  obtain ⟨n, hl⟩ := hJ s hs
  have h2 := contains_loopJ (J := J) (l := l) (items := items) (x := x) (e := e) (A := A) (E := fun v s' => R (.error v) s') (R := R) hJ he (fun _ _ z => z) _ 0 rfl s hs (by simpa using h)
  obtain ⟨hp, g, d, tk, os⟩ := s
  wp_walk using wpAny_loadPart' hl
  exact ⟨plainId_quiet plain_contains_loop _, codeAny_builtin entry_contains_loop (by
    rw [Around.under_plainId plain_contains_loop _]
    exact h2)⟩

theorem eqBool_sameJ {M : Model} {A : Around} {E : Value → Shared → Prop} {s : Shared} {a : Addr} {Q : Bool → Shared → Prop} (h : Q true s) : wpAny M A (eqBool (.ref a) (.ref a)) Q E s := by
  unfold eqBool
  refine wpAny_holding ?_
  rw [if_pos (by simp)]
  exact wpAny_bind (wpAny_rule (wpAny_pure h))
theorem eqBool_otherJ {M : Model} {A : Around} {E : Value → Shared → Prop} {s : Shared} {a b : Addr} {Q : Bool → Shared → Prop} (hab : a ≠ b) (h : wpAny M A (richCompare .Eq (.ref a) (.ref b)) (fun v s' => ∃ c, v = .bool c ∧ Q c s') E s) : wpAny M A (eqBool (.ref a) (.ref b)) Q E s := by
  unfold eqBool
  refine wpAny_holding ?_
  rw [if_neg (by simpa using hab)]
  refine wpAny_bind (wpAny_mono h (fun v s' z => ?_) fun _ _ z => z)
  obtain ⟨c, rfl, q⟩ := z
  exact wpAny_truthy_bool q
/-- x in l, y == x told for each item: e -/
def rInOwn (K : PySem.W.Frag) (C : Addr) (g : Sp) (E : XK) (b : Bool → Bool) : R2 := fun x y H Q => ∃ (l a dx : Addr) (fs : List (Str × V)) (us : List Addr) (e : Addr → Bool), x = .ref a ∧ H a = some (.ins C dx fs) ∧ TyX K H (.ref a) (.ref C) ∧ y = .ref l ∧ H l = some (.lst (us.map V.ref)) ∧
  (∀ c, c ∈ us → (c = a ∧ e c = true) ∨ c ≠ a ∧ (∃ dc fc, H c = some (.ins C dc fc)) ∧ g [.ref c, .ref a] H (fun v H' => v = .bl (e c) ∧ H' = H) E) ∧ Q (.bl (b (us.any e))) H
theorem vals_refs : ∀ {us : List Addr} {ws : List Value}, Vals (us.map V.ref) ws → ws = us.map Value.ref := by
  intro us
  induction us with
  | nil => intro ws h; cases h; rfl
  | cons u us ih =>
    intro ws h
    cases h with
    | cons r t =>
      obtain rfl := (show _ = Value.ref u from r)
      rw [ih t]; rfl
section
variable {X : Cx} {CX : CXT} {n : Nat} {C f : Addr} {g : Sp} {E : XK}
theorem inOwnJ (hs : PySem.W.findIn X.K (.ref C) "__eq__" = some (some (.ref f))) (hf : PySem.W.isFn X.K (.ref f) = true) (hn : PySem.W.notFirst X.K C (.ref C) = true)
    (G : FnR X.prog X.w X.K X.mg X.base CX n f g) (hr : Room (n + 1) X.A) (hx : Passes CX X E) {b : Bool → Bool} {pins : List (Addr × Obj)} {s : Shared} {σ : L2.St} {H : Hp} {x y : V} {v u : Value} {Q : VK}
    (I : Inv X pins σ H s) (rx : L2.RelV x v) (ry : L2.RelV y u) (h : rInOwn X.K C g E b x y H Q) : wpAny (model X.prog X.w) X.A (contains u v) (fun c s' => EP X pins σ Q (.bool (b c)) s') X.xe s := by
  obtain ⟨l, a, dx, fs, us, e, rfl, ea, ty, rfl, el, hi, q⟩ := h
  obtain rfl : v = .ref a := rx
  obtain rfl : u = .ref l := ry
  let J : Shared → Prop := fun s' => Inv X pins σ H s'
  have hJ : ∀ s', J s' → ∃ n, s'.heap.get? l = some { cls := .type "list", data := .seq (us.map Value.ref).toArray n } := by
    intro s' I'
    obtain ⟨_, its, n, rI, hg⟩ := (show ObjOk X.prog X.w H s'.heap l (.lst _) from I'.hok l _ el)
    rw [vals_refs rI] at hg
    exact ⟨n, hg⟩
  have hr2 : Room n X.A.in1 := Room.in1 hr
  obtain ⟨n0, hl⟩ := hJ s I
  refine wpAny_contains_slot ⟨_, hl, rfl⟩ PySem.F.slot_list_contains ?_
  let e' : Value → Bool := fun v => match v with | .ref c => e c | _ => false
  have hany : (us.map Value.ref).toArray.any e' = us.any e := by simp [e', List.any_map]; rfl
  refine wpAny_mono (call_meetsIn PySem.F.slot_list_contains ⟨_, hl, rfl⟩ PySem.F.entry_list_contains (PySem.F.args_list_contains_2 _ _) (list_containsJ (J := J) (x := .ref a) (e := e') hJ)
    (E := X.xe) (Q := fun r s' => r = .bool (us.any e) ∧ J s') ⟨I, fun y hy Q' s' I' hq => ?_, fun s' I' => ?_⟩) (fun r s' z => ?_) fun _ _ z => z
  · obtain ⟨c, hc, rfl⟩ := List.mem_map.mp (by simpa using hy)
    rcases hi c hc with ⟨rfl, he⟩ | ⟨hca, ⟨dc, fc, ec⟩, hg⟩
    · refine eqBool_sameJ ?_
      have := hq s' I'
      simpa [e', he] using this
    · refine eqBool_otherJ hca ?_
      obtain ⟨od, J1⟩ := inst_of I' ec
      obtain ⟨m, fr⟩ := I'.fr
      obtain ⟨P, Z, hP, _⟩ := kit_of (x := .ref a) (u := .ref a) I' rfl ty
      refine PySem.W.cmp_K hr2.units0 fr I'.ok.mod.kin J1 (Z.ty _ _ I'.kIn hP) hn hs hf ?_
      refine wpAny_mono (run_in (us := [.ref c, .ref a]) (vs := [.ref c, .ref a]) G hr2 I'.env0.in1 hx I' (.cons rfl (.cons rfl .nil)) hg) ?_ fun _ _ z => z
      rintro z s2 ⟨z', H2, I2, rz, rfl, rfl⟩
      obtain rfl : z = .bool (e c) := rz
      have h3 := hq s2 I2
      exact back_of (z := .bl (e c)) rfl ⟨_, rfl, h3⟩
  · rw [hany]; exact ⟨rfl, I'⟩
  · obtain ⟨rfl, I'⟩ := z
    exact wpAny_truthy_bool ⟨.bl _, H, I', rfl, q⟩
theorem op_inJ (hs : PySem.W.findIn X.K (.ref C) "__eq__" = some (some (.ref f))) (hf : PySem.W.isFn X.K (.ref f) = true) (hn : PySem.W.notFirst X.K C (.ref C) = true)
    (G : FnR X.prog X.w X.K X.mg X.base CX n f g) (hr : Room (n + 1) X.A) (hx : Passes CX X E) : OpR X (compareOp .In) (rInOwn X.K C g E id) := by
  intro pins s σ H x y v u Q I rx ry h
  show wpAny _ _ (do return Value.bool (← contains u v)) _ _ s
  exact wpAny_bind (wpAny_mono (inOwnJ hs hf hn G hr hx I rx ry h) (fun c s' z => wpAny_pure z) fun _ _ z => z)
theorem op_notInJ (hs : PySem.W.findIn X.K (.ref C) "__eq__" = some (some (.ref f))) (hf : PySem.W.isFn X.K (.ref f) = true) (hn : PySem.W.notFirst X.K C (.ref C) = true)
    (G : FnR X.prog X.w X.K X.mg X.base CX n f g) (hr : Room (n + 1) X.A) (hx : Passes CX X E) : OpR X (compareOp .NotIn) (rInOwn X.K C g E not) := by
  intro pins s σ H x y v u Q I rx ry h
  show wpAny _ _ (do return Value.bool (!(← contains u v))) _ _ s
  exact wpAny_bind (wpAny_mono (inOwnJ hs hf hn G hr hx I rx ry h) (fun c s' z => wpAny_pure z) fun _ _ z => z)
end
end RR
set_option maxHeartbeats 4000000
namespace RR
open PySem PySem.Spec PyProof.Rows L2
/-! ### a class that a name of the def holds, called -/
def tMakeV (i : Nat) (C : Addr) (sp : Sp) (dvs : List V) (E : XK) (t : TA) : TE := fun σ H Q => σ[i]? = some (some (.ref C)) ∧ tMake C sp dvs E t σ H Q
theorem pe_makeV {X : Cx} {CX : CXT} {k i : Nat} {f C : Addr} {fd : FuncData} {ps : List Str} {ds : List Value} {dvs : List V} {sp : Sp} {E : XK} {x : Str} {p pos : Pos} {e : Expr} {es : List Expr} {t : TA} (M : Mk X.K C f) (F : FnOk X.prog X.w X.K X.mg X.base CX k f fd ps sp) (hr : Room (k + 1) X.A) (hN : X.N[i]? = some x) (hv : Vis X.env.scope x) (hb : Binds X.K fd ps ds) (hd : Vals dvs ds) (hx : Passes CX X E)
    (ha : PA X (e :: es) t) (hdb : (x == ("__debug__" : Str)) = false := by decide) (hcd : (x == ("__classdict__" : Str)) = false := by decide) (he : starEach (e :: es) X.env = (false, eval e X.env) :: starEach es X.env := by rfl) (hpl : (backTo pos (starEach es X.env)).any (·.1) = false := by rfl) :
    PE X (.Call (.Name x p) (e :: es) [] pos) (tMakeV i C sp dvs E t) := by
  refine ⟨fun pins s σ H Q I h => ?_⟩
  obtain ⟨hs, ht⟩ := h
  refine wpAny_Call_Name_kw (thn ((pe_var (pos := p) hN hv hdb hcd).run pins s σ H (fun v H1 => v = .ref C ∧ H1 = H) I ⟨.ref C, hs, rfl, rfl⟩) fun u s1 ⟨v, H1, I1, r1, q1⟩ => ?_)
  obtain ⟨rfl, rfl⟩ := q1
  cases r1
  refine PySem.W.callWith_K (h₀ := X.base) I.ok.mod.kin M.kp (thn (ha.run pos pins s1 σ _ _ I1 ht) fun us s2 ⟨vs, H2, I2, r, q⟩ => ⟨I2.kIn, ?_⟩) he hpl
  exact run_make M F hr hb hd hx I2 r q
/-! ### texts of ratios, sign by sign -/
abbrev S (l : List Nat) : Str := SX.S l
theorem numL_head {n : Nat} (h : n ≠ 0) : ∃ c r, TL.numL n = c :: r ∧ 49 ≤ c ∧ c ≤ 57 := by
  induction n using Nat.strongRecOn with
  | _ n ih =>
    by_cases hn : n < 10
    · exact ⟨48 + n, [], TL.numL_lt hn, by omega, by omega⟩
    · obtain ⟨c, r, e, h1, h2⟩ := ih (n / 10) (by omega) (by omega)
      exact ⟨c, r ++ [48 + n % 10], by rw [TL.numL_step (by omega), e]; rfl, h1, h2⟩
def sgL (t : Int) : List Nat := if t < 0 then [45] else []
def intL (t : Int) : List Nat := sgL t ++ TL.numL t.natAbs
def botL (b : Int) : List Nat := if b = 1 then [] else 47 :: TL.numL b.natAbs
def txtL (t b : Int) : List Nat := intL t ++ botL b
theorem ofS_app (a b : String) : Str.ofString (a ++ b) = Str.ofString a ++ Str.ofString b := by
  refine TL.ext_tl ?_
  rw [TL.tl_append, TL.tl_ofString, TL.tl_ofString, TL.tl_ofString, String.toList_append, List.map_append]
theorem int_S (t : Int) : Str.ofString (toString t) = S (intL t) := by
  unfold intL sgL
  by_cases h : t < 0
  · rw [if_pos h]
    obtain ⟨n, rfl⟩ : ∃ n : Nat, t = -((n + 1 : Nat) : Int) := ⟨t.natAbs - 1, by omega⟩
    have e : toString (-((n + 1 : Nat) : Int)) = "-" ++ toString (((n + 1 : Nat) : Int)) := rfl
    rw [e, ofS_app, SX.num_S, Int.natAbs_neg, Int.natAbs_natCast]
    show SX.S [45] ++ SX.S _ = _
    rw [SX.S_cat]
  · rw [if_neg h]
    obtain ⟨n, rfl⟩ := Int.eq_ofNat_of_zero_le (by omega : 0 ≤ t)
    rw [SX.num_S]
    rfl
theorem txt_S {t b : Int} (b0 : 0 < b) : txt t b = S (txtL t b) := by
  unfold txt txtL botL
  rw [if_neg (by omega)]
  by_cases h : b = 1
  · rw [if_pos h, if_pos h, int_S, List.append_nil]
  · rw [if_neg h, if_neg h, int_S, int_S]
    have e : intL b = TL.numL b.natAbs := by unfold intL sgL; rw [if_neg (by omega)]; rfl
    rw [e]
    show SX.S _ ++ SX.S [47] ++ SX.S _ = _
    rw [SX.S_cat, SX.S_cat]
    congr 1
    simp
theorem len_S (l : List Nat) : (S l).length = l.length := SX.S_len l
theorem dec_str {a b : List Nat} : decide (V.str (S a) = V.str (S b)) = decide (a = b) := by
  rw [decide_eq_decide]
  exact ⟨fun h => SX.S_inj (V.str.inj h), fun h => by rw [h]⟩
theorem cut_nat (l : List Nat) {i j : Nat} (hi : i ≤ l.length) : cutS (S l) (some (i : Int)) (some (j : Int)) = S ((l.drop i).take (min j l.length - i)) := by
  unfold cutS
  rw [len_S, HT.sIx_nat, HT.sIx_nat, Nat.min_eq_left hi]
theorem cut_none (l : List Nat) {j : Nat} : cutS (S l) none (some (j : Int)) = S (l.take (min j l.length)) := by
  unfold cutS
  rw [len_S, HT.sIx_none, HT.sIx_nat]
  rfl
theorem cut_at (a r : List Nat) (c : Nat) : cutS (S (a ++ c :: r)) (some (a.length : Int)) (some ((a.length : Int) + 1)) = S [c] := by
  have e : ((a.length : Int) + 1) = ((a.length + 1 : Nat) : Int) := rfl
  rw [e, cut_nat _ (by simp)]
  congr 1
  rw [List.drop_append_of_le_length (Nat.le_refl _), List.drop_length, List.nil_append, Nat.min_eq_left (by simp), Nat.add_sub_cancel_left]
  rfl
theorem cut_end (a : List Nat) : cutS (S a) (some (a.length : Int)) (some ((a.length : Int) + 1)) = S [] := by
  have e : ((a.length : Int) + 1) = ((a.length + 1 : Nat) : Int) := rfl
  rw [e, cut_nat _ (Nat.le_refl _), List.drop_length, List.take_nil]
theorem cut_first (r : List Nat) (c : Nat) : cutS (S (c :: r)) none (some 1) = S [c] := by
  have e : (1 : Int) = ((1 : Nat) : Int) := rfl
  rw [e, cut_none]
  congr 1
theorem item_at (a r : List Nat) (c : Nat) : atI (S (a ++ c :: r)).cps.toList (a.length : Int) = some c := atI_nat (by
  show (a ++ c :: r)[a.length]? = some c
  simp)
def figs : List Nat := [48, 49, 50, 51, 52, 53, 54, 55, 56, 57]
theorem figs_S : (("0123456789" : String) : Str) = S figs := by decide +kernel
theorem mem_figs {c : Nat} : c ∈ figs ↔ 48 ≤ c ∧ c ≤ 57 := by
  unfold figs
  simp only [List.mem_cons, List.not_mem_nil, or_false]
  omega
theorem in_figs (c : Nat) : (!(Builtin.Str.occurrences (S figs) (S [c]) 0 (S figs).length 1).isEmpty) = decide (48 ≤ c ∧ c ≤ 57) := by
  rw [SX.in_one, decide_eq_decide]
  exact mem_figs
/-- the figures of a number, as they are written -/
def IsNum (d : List Nat) : Prop := d = [48] ∨ ∃ c r, d = c :: r ∧ 49 ≤ c ∧ NumText.AllDigits d
def NoDig (r : List Nat) : Prop := ∀ c, r.head? = some c → ¬ (48 ≤ c ∧ c ≤ 57)
theorem isNum_L (n : Nat) : IsNum (TL.numL n) := by
  by_cases h : n = 0
  · subst h
    exact .inl (TL.numL_lt (by decide))
  · obtain ⟨c, r, e, h1, _⟩ := numL_head h
    exact .inr ⟨c, r, e, h1, TL.numL_digits n⟩
def spFigs : Sp := fun vs H Q _ => ∃ a d r : List Nat, vs = [.str (S (a ++ (d ++ r))), .int a.length] ∧ IsNum d ∧ NoDig r ∧ (a ++ (d ++ r)).length ≤ 5000 ∧ Q (.int ((a.length : Int) + d.length)) H
def spLive : Sp := fun vs H Q _ => ∃ t b, vs = [.str (S (txtL t b))] ∧ 0 < b ∧ (txtL t b).length ≤ 5000 ∧ Q (.int ((txtL t b).length : Int)) H
end RR
set_option maxHeartbeats 4000000
namespace RR
/-! ### the beginnings of right texts, as an automaton (law_k06) -/
inductive Au where
  | s0 | en (k : Nat) | mi | ze | nu | st | nb
def isDig (c : Nat) : Bool := decide (48 ≤ c) && decide (c ≤ 57)
def endL : List Nat := [101, 110, 100, 108, 101, 115, 115]
def Au.step : Au → Nat → Option Au
  | .s0, c => if c = 101 then some (.en 1) else if c = 45 then some .mi else if c = 48 then some .ze else if isDig c then some .nu else none
  | .en k, c => if endL[k]? = some c then some (.en (k + 1)) else none
  | .mi, c => if c = 48 then none else if isDig c then some .nu else none
  | .ze, c => if c = 47 then some .st else none
  | .nu, c => if isDig c then some .nu else if c = 47 then some .st else none
  | .st, c => if c = 48 then none else if isDig c then some .nb else none
  | .nb, c => if isDig c then some .nb else none
/-- how many signs it lives -/
def Au.lives : Au → List Nat → Nat
  | _, [] => 0
  | a, c :: l => match a.step c with
    | none => 0
    | some b => b.lives l + 1
/-- the program's own reckoning -/
def dig (l : List Nat) : Nat := (l.takeWhile isDig).length
def figLen (l : List Nat) : Nat := if l.head? = some 48 then 1 else dig l
def shared : List Nat → List Nat → Nat
  | a :: l, b :: m => if a = b then shared l m + 1 else 0
  | _, _ => 0
def behind (l : List Nat) : Nat := if l.head? = some 48 then 0 else dig l
def tailLen (l : List Nat) : Nat := match l with
  | 47 :: r => behind r + 1
  | _ => 0
theorem tailLen_ne {c : Nat} {l : List Nat} (h : c ≠ 47) : tailLen (c :: l) = 0 := by
  unfold tailLen
  split
  · rename_i z
    cases z
    exact absurd rfl h
  · rfl
theorem nb_lives (l : List Nat) : Au.nb.lives l = dig l := by
  induction l with
  | nil => rfl
  | cons c l ih =>
    unfold dig at *
    rw [Au.lives, List.takeWhile_cons]
    simp only [Au.step]
    by_cases h : isDig c = true
    · rw [if_pos h, if_pos h]
      simp [ih]
    · rw [if_neg h, if_neg h]
      rfl
theorem st_lives (l : List Nat) : Au.st.lives l = behind l := by
  cases l with
  | nil => rfl
  | cons c l =>
    unfold behind
    rw [Au.lives]
    simp only [Au.step, List.head?_cons, Option.some.injEq]
    by_cases h : c = 48
    · rw [if_pos h, if_pos h]
    · rw [if_neg h, if_neg h]
      unfold dig
      rw [List.takeWhile_cons]
      by_cases k : isDig c = true
      · rw [if_pos k, if_pos k]
        simp only [nb_lives, dig, List.length_cons]
      · rw [if_neg k, if_neg k]
        rfl
theorem nu_lives (l : List Nat) : Au.nu.lives l = dig l + tailLen (l.drop (dig l)) := by
  induction l with
  | nil => rfl
  | cons c l ih =>
    rw [Au.lives]
    simp only [Au.step]
    by_cases k : isDig c = true
    · rw [if_pos k]
      have e : dig (c :: l) = dig l + 1 := by unfold dig; rw [List.takeWhile_cons, if_pos k]; rfl
      simp only [ih, e, List.drop_succ_cons]
      omega
    · rw [if_neg k]
      have e : dig (c :: l) = 0 := by unfold dig; rw [List.takeWhile_cons, if_neg k]; rfl
      rw [e, List.drop_zero]
      by_cases h : c = 47
      · subst h
        rw [if_pos rfl]
        simp [st_lives, tailLen]
      · rw [if_neg h, tailLen_ne h]
theorem ze_lives (l : List Nat) : Au.ze.lives l = tailLen l := by
  cases l with
  | nil => rfl
  | cons c l =>
    rw [Au.lives]
    simp only [Au.step]
    by_cases h : c = 47
    · subst h
      rw [if_pos rfl]
      simp [st_lives, tailLen]
    · rw [if_neg h, tailLen_ne h]
theorem en_lives (l : List Nat) : ∀ k, (Au.en k).lives l = shared l (endL.drop k) := by
  induction l with
  | nil => intro k; rfl
  | cons c l ih =>
    intro k
    rw [Au.lives]
    simp only [Au.step]
    cases h : endL[k]? with
    | none =>
      rw [if_neg (by simp)]
      have : endL.drop k = [] := List.drop_eq_nil_iff.mpr (List.getElem?_eq_none_iff.mp h)
      rw [this]
      rfl
    | some d =>
      obtain ⟨hk, e⟩ := List.getElem?_eq_some_iff.mp h
      have e2 : endL.drop k = d :: endL.drop (k + 1) := by rw [List.drop_eq_getElem_cons hk, e]
      rw [e2, shared]
      by_cases z : c = d
      · subst z
        simp [ih]
      · rw [if_neg z, if_neg (fun y => z (Option.some.inj y).symm)]
/-- what a text's length of the longest beginning is -/
def liveLen (l : List Nat) : Nat :=
  if l.head? = some 101 then shared l endL
  else if l.head? = some 45 then (if (l.drop 1).head? = some 48 ∨ dig (l.drop 1) = 0 then 1 else 1 + dig (l.drop 1) + tailLen (l.drop (1 + dig (l.drop 1))))
  else if l.head? = some 48 then 1 + tailLen (l.drop 1)
  else if dig l = 0 then 0 else dig l + tailLen (l.drop (dig l))
theorem s0_lives (l : List Nat) : Au.s0.lives l = liveLen l := by
  cases l with
  | nil => rfl
  | cons c l =>
    unfold liveLen
    rw [Au.lives]
    simp only [Au.step, List.head?_cons, Option.some.injEq, List.drop_succ_cons, List.drop_zero]
    by_cases h : c = 101
    · subst h
      rw [if_pos rfl, if_pos rfl]
      simp only [en_lives]
      rfl
    rw [if_neg h, if_neg h]
    by_cases h2 : c = 45
    · subst h2
      rw [if_pos rfl, if_pos rfl]
      show Au.mi.lives l + 1 = _
      cases l with
      | nil => rfl
      | cons d r =>
        rw [Au.lives]
        simp only [Au.step, List.head?_cons, Option.some.injEq]
        by_cases z : d = 48
        · rw [if_pos z, if_pos (.inl z)]
        rw [if_neg z]
        by_cases k : isDig d = true
        · have e : dig (d :: r) = dig r + 1 := by unfold dig; rw [List.takeWhile_cons, if_pos k]; rfl
          rw [if_pos k, if_neg (by rw [e]; omega), e, show 1 + (dig r + 1) = (dig r + 1) + 1 by omega, List.drop_succ_cons, List.drop_succ_cons]
          simp only [nu_lives]
          omega
        · have e : dig (d :: r) = 0 := by unfold dig; rw [List.takeWhile_cons, if_neg k]; rfl
          rw [if_neg k, if_pos (.inr e)]
    rw [if_neg h2, if_neg h2]
    by_cases h3 : c = 48
    · rw [if_pos h3, if_pos h3]
      simp only [ze_lives]
      omega
    rw [if_neg h3, if_neg h3]
    by_cases k : isDig c = true
    · have e : dig (c :: l) = dig l + 1 := by unfold dig; rw [List.takeWhile_cons, if_pos k]; rfl
      rw [if_pos k, if_neg (by rw [e]; omega), e, List.drop_succ_cons]
      simp only [nu_lives]
      omega
    · have e : dig (c :: l) = 0 := by unfold dig; rw [List.takeWhile_cons, if_neg k]; rfl
      rw [if_neg k, if_pos e]
end RR
set_option maxHeartbeats 4000000
namespace RR
open PySem PySem.Spec PyProof.Rows L2
/-! ### the beginnings of right texts, by pieces (law_k06) -/
def front (l : List Nat) : List Nat := l.takeWhile fun c => c != 47
def after : List Nat → Option (List Nat)
  | [] => none
  | c :: l => if c = 47 then some l else after l
/-- figures without a zero ahead, but 0 itself -/
def NumP (d : List Nat) : Prop := d ≠ [] ∧ (∀ c ∈ d, isDig c = true) ∧ (d = [48] ∨ d.head? ≠ some 48)
def okBehind : Option (List Nat) → Prop
  | none => True
  | some r => r = [] ∨ (NumP r ∧ r ≠ [48])
theorem dig_all (l : List Nat) : dig l = l.length ↔ ∀ c ∈ l, isDig c = true := by
  induction l with
  | nil => exact ⟨fun _ _ h => (nomatch h), fun _ => rfl⟩
  | cons c l ih =>
    by_cases k : isDig c = true
    · have e : dig (c :: l) = dig l + 1 := by unfold dig; rw [List.takeWhile_cons, if_pos k]; rfl
      rw [e, List.length_cons]
      simp only [List.mem_cons, forall_eq_or_imp, k, true_and]
      rw [← ih]
      omega
    · have e : dig (c :: l) = 0 := by unfold dig; rw [List.takeWhile_cons, if_neg k]; rfl
      rw [e, List.length_cons]
      simp only [List.mem_cons, forall_eq_or_imp]
      constructor
      · intro h; omega
      · rintro ⟨h, _⟩; exact absurd h k
theorem step_ok {a : Au} {c : Nat} {l : List Nat} : a.lives (c :: l) = (c :: l).length ↔ ∃ b, a.step c = some b ∧ b.lives l = l.length := by
  rw [Au.lives]
  cases a.step c with
  | none => simp
  | some b => simp
theorem st_ok (l : List Nat) : Au.st.lives l = l.length ↔ l = [] ∨ (NumP l ∧ l ≠ [48]) := by
  cases l with
  | nil => exact ⟨fun _ => .inl rfl, fun _ => rfl⟩
  | cons c l =>
    rw [st_lives]
    unfold behind
    simp only [List.head?_cons, Option.some.injEq]
    by_cases h : c = 48
    · subst h
      rw [if_pos rfl]
      constructor
      · intro z; simp at z
      · rintro (z | ⟨⟨_, _, z⟩, k⟩)
        · cases z
        · rcases z with z | z
          · exact absurd z k
          · simp at z
    · rw [if_neg h, dig_all]
      constructor
      · intro z
        exact .inr ⟨⟨by simp, z, .inr (by simpa using h)⟩, fun y => h (List.cons.inj y).1⟩
      · rintro (z | ⟨⟨_, z, _⟩, _⟩)
        · cases z
        · exact z
theorem dig_47 : isDig 47 = false := by decide
theorem nu_ok (l : List Nat) : Au.nu.lives l = l.length ↔ (∀ c ∈ front l, isDig c = true) ∧ okBehind (after l) := by
  induction l with
  | nil => exact ⟨fun _ => ⟨fun _ h => (nomatch h), trivial⟩, fun _ => rfl⟩
  | cons c l ih =>
    rw [step_ok]
    simp only [Au.step]
    by_cases h : c = 47
    · subst h
      have e : front (47 :: l) = [] := rfl
      have e2 : after (47 :: l) = some l := rfl
      rw [e, e2, if_neg (by decide), if_pos rfl]
      simp only [Option.some.injEq, exists_eq_left', st_ok, okBehind]
      exact ⟨fun z => ⟨fun _ h => (nomatch h), z⟩, fun z => z.2⟩
    · have e : front (c :: l) = c :: front l := by unfold front; rw [List.takeWhile_cons, if_pos (by simpa using h)]
      have e2 : after (c :: l) = after l := by rw [after, if_neg h]
      rw [e, e2]
      by_cases k : isDig c = true
      · rw [if_pos k]
        simp only [Option.some.injEq, exists_eq_left', ih, List.mem_cons, forall_eq_or_imp, k, true_and]
      · rw [if_neg k, if_neg h]
        simp [k]
theorem ze_ok (l : List Nat) : Au.ze.lives l = l.length ↔ front l = [] ∧ okBehind (after l) := by
  cases l with
  | nil => exact ⟨fun _ => ⟨rfl, trivial⟩, fun _ => rfl⟩
  | cons c l =>
    rw [step_ok]
    simp only [Au.step]
    by_cases h : c = 47
    · subst h
      have e : front (47 :: l) = [] := rfl
      have e2 : after (47 :: l) = some l := rfl
      rw [e, e2, if_pos rfl]
      simp only [Option.some.injEq, exists_eq_left', st_ok, okBehind, true_and]
    · have e : front (c :: l) = c :: front l := by unfold front; rw [List.takeWhile_cons, if_pos (by simpa using h)]
      rw [e, if_neg h]
      simp
theorem mi_ok {l : List Nat} (hl : l ≠ []) : Au.mi.lives l = l.length ↔ NumP (front l) ∧ front l ≠ [48] ∧ okBehind (after l) := by
  cases l with
  | nil => exact absurd rfl hl
  | cons c l =>
    rw [step_ok]
    simp only [Au.step]
    by_cases h : c = 47
    · subst h
      have e : front (47 :: l) = [] := rfl
      rw [e]
      simp [NumP, dig_47]
    · have e : front (c :: l) = c :: front l := by unfold front; rw [List.takeWhile_cons, if_pos (by simpa using h)]
      have e2 : after (c :: l) = after l := by rw [after, if_neg h]
      rw [e, e2]
      by_cases z : c = 48
      · subst z
        rw [if_pos rfl]
        simp only [NumP, List.head?_cons]
        constructor
        · rintro ⟨b, y, _⟩; cases y
        · rintro ⟨⟨_, _, y⟩, k, _⟩
          rcases y with y | y
          · exact absurd y k
          · exact absurd rfl y
      · rw [if_neg z]
        by_cases k : isDig c = true
        · rw [if_pos k]
          simp only [Option.some.injEq, exists_eq_left', nu_ok, NumP, List.mem_cons, forall_eq_or_imp, k, true_and, List.head?_cons]
          constructor
          · rintro ⟨a, b⟩
            exact ⟨⟨by simp, a, .inr (fun y => z (Option.some.inj y))⟩, fun y => z (List.cons.inj y).1, b⟩
          · rintro ⟨⟨_, a, _⟩, _, b⟩
            exact ⟨a, b⟩
        · rw [if_neg k]
          simp [NumP, k]
theorem en_ok (l : List Nat) : ∀ k, (Au.en k).lives l = l.length ↔ l = (endL.drop k).take l.length := by
  induction l with
  | nil => intro k; exact ⟨fun _ => by simp, fun _ => rfl⟩
  | cons c l ih =>
    intro k
    rw [step_ok]
    simp only [Au.step]
    cases h : endL[k]? with
    | none =>
      have e : endL.drop k = [] := List.drop_eq_nil_iff.mpr (List.getElem?_eq_none_iff.mp h)
      rw [e]
      simp
    | some d =>
      obtain ⟨hk, e⟩ := List.getElem?_eq_some_iff.mp h
      have e2 : endL.drop k = d :: endL.drop (k + 1) := by rw [List.drop_eq_getElem_cons hk, e]
      rw [e2]
      by_cases z : c = d
      · subst z
        simp [ih]
      · rw [if_neg (fun y => z (Option.some.inj y).symm)]
        simp [z]
def body (l : List Nat) : List Nat := if (front l).head? = some 45 then (front l).drop 1 else front l
/-- the law's own reading of a beginning -/
def Begins (l : List Nat) : Prop := endL.take l.length = l ∨ l = [45] ∨ (NumP (body l) ∧ front l ≠ [45, 48] ∧ okBehind (after l))
theorem front_c {c : Nat} {l : List Nat} (h : c ≠ 47) : front (c :: l) = c :: front l := by unfold front; rw [List.takeWhile_cons, if_pos (by simpa using h)]
theorem after_c {c : Nat} {l : List Nat} (h : c ≠ 47) : after (c :: l) = after l := by rw [after, if_neg h]
theorem numP_nil : ¬ NumP [] := fun h => h.1 rfl
theorem numP_c {c : Nat} {l : List Nat} (h : NumP (c :: l)) : isDig c = true := h.2.1 c List.mem_cons_self
theorem s0_ok {l : List Nat} (hl : l ≠ []) : Au.s0.lives l = l.length ↔ Begins l := by
  cases l with
  | nil => exact absurd rfl hl
  | cons c l =>
    rw [step_ok]
    simp only [Au.step]
    unfold Begins
    by_cases h : c = 101
    · subst h
      rw [if_pos rfl]
      simp only [Option.some.injEq, exists_eq_left', en_ok]
      have e : body (101 :: l) = 101 :: front l := by unfold body; rw [front_c (by decide)]; rfl
      rw [e]
      have n : ¬ NumP (101 :: front l) := fun z => by have := numP_c z; exact absurd this (by decide)
      simp only [n, false_and, or_false, show ¬ (101 :: l = [45]) by simp]
      show l = (endL.drop 1).take l.length ↔ 101 :: (endL.drop 1).take l.length = 101 :: l
      constructor
      · intro z; rw [← z]
      · intro z; exact (List.cons.inj z).2.symm
    have ne : ¬ endL.take (c :: l).length = c :: l := fun z => h (List.cons.inj z).1.symm
    rw [if_neg h]
    simp only [ne, false_or]
    by_cases h2 : c = 45
    · subst h2
      rw [if_pos rfl]
      simp only [Option.some.injEq, exists_eq_left']
      by_cases hn : l = []
      · subst hn
        exact ⟨fun _ => .inl rfl, fun _ => rfl⟩
      rw [mi_ok hn, front_c (by decide), after_c (by decide)]
      have e : body (45 :: l) = front l := by unfold body; rw [front_c (by decide)]; rfl
      rw [e]
      simp [hn]
    have e0 : ¬ c :: l = [45] := fun z => h2 (List.cons.inj z).1
    rw [if_neg h2]
    simp only [e0, false_or]
    by_cases h47 : c = 47
    · subst h47
      have e : body (47 :: l) = [] := rfl
      rw [if_neg (by decide), if_neg (by decide), e]
      simp [numP_nil]
    have e : body (c :: l) = c :: front l := by unfold body; rw [front_c h47, if_neg (by simpa using h2)]
    rw [e, front_c h47, after_c h47]
    have n1 : c :: front l ≠ [45, 48] := fun z => h2 (List.cons.inj z).1
    by_cases h3 : c = 48
    · subst h3
      rw [if_pos rfl]
      simp only [Option.some.injEq, exists_eq_left', ze_ok, n1, ne_eq, not_false_eq_true, true_and]
      constructor
      · rintro ⟨a, b⟩
        exact ⟨⟨by simp, by rw [a]; simp; decide, .inl (by rw [a])⟩, b⟩
      · rintro ⟨⟨_, _, a⟩, b⟩
        rcases a with a | a
        · exact ⟨(List.cons.inj a).2, b⟩
        · exact absurd rfl a
    rw [if_neg h3]
    by_cases k : isDig c = true
    · rw [if_pos k]
      simp only [Option.some.injEq, exists_eq_left', nu_ok, n1, ne_eq, not_false_eq_true, true_and]
      constructor
      · rintro ⟨a, b⟩
        exact ⟨⟨by simp, by intro x hx; rcases List.mem_cons.mp hx with rfl | hx; exact k; exact a x hx, .inr (fun y => h3 (Option.some.inj y))⟩, b⟩
      · rintro ⟨⟨_, a, _⟩, b⟩
        exact ⟨fun x hx => a x (List.mem_cons_of_mem _ hx), b⟩
    · rw [if_neg k]
      constructor
      · rintro ⟨b, y, _⟩; cases y
      · rintro ⟨a, _⟩; exact absurd (numP_c a) k
theorem lives_le (l : List Nat) : ∀ a : Au, a.lives l ≤ l.length := by
  induction l with
  | nil => intro a; exact Nat.le_refl _
  | cons c l ih =>
    intro a
    rw [Au.lives]
    cases a.step c with
    | none => exact Nat.zero_le _
    | some b => exact Nat.succ_le_succ (ih b)
theorem lives_take (l : List Nat) : ∀ (a : Au) (m : Nat), m ≤ l.length → (a.lives (l.take m) = m ↔ m ≤ a.lives l) := by
  induction l with
  | nil =>
    intro a m hm
    obtain rfl : m = 0 := Nat.le_zero.mp hm
    exact ⟨fun _ => Nat.zero_le _, fun _ => rfl⟩
  | cons c l ih =>
    intro a m hm
    cases m with
    | zero => exact ⟨fun _ => Nat.zero_le _, fun _ => rfl⟩
    | succ m =>
      rw [List.take_succ_cons, Au.lives, Au.lives]
      cases a.step c with
      | none => simp
      | some b =>
        have := ih b m (Nat.le_of_succ_le_succ hm)
        simp only [Nat.add_right_cancel_iff, Nat.add_le_add_iff_right]
        exact this
/-- the m signs at the beginning are a beginning of a right text just where m is not above the length -/
theorem begins_take {l : List Nat} {m : Nat} (h0 : 0 < m) (hm : m ≤ l.length) : Begins (l.take m) ↔ m ≤ liveLen l := by
  have e : (l.take m).length = m := by rw [List.length_take]; omega
  have ne : l.take m ≠ [] := fun z => by rw [z] at e; simp at e; omega
  rw [← s0_ok ne, e, lives_take l _ m hm, s0_lives]
theorem liveLen_le (l : List Nat) : liveLen l ≤ l.length := by
  rw [← s0_lives]
  exact lives_le l _
/-! ### the program's own reckoning, as it stands there -/
theorem figLen_0 (l : List Nat) : figLen l = 0 ↔ l.head? ≠ some 48 ∧ dig l = 0 := by
  unfold figLen
  split
  · rename_i h
    exact ⟨fun z => (nomatch z), fun z => absurd h z.1⟩
  · rename_i h
    exact ⟨fun z => ⟨h, z⟩, fun z => z.2⟩
def sgnL (l : List Nat) : Nat := if l.head? = some 45 then 1 else 0
def stopAt (l : List Nat) : Nat := sgnL l + figLen (l.drop (sgnL l))
theorem liveLen_prog {l : List Nat} (h : l.head? ≠ some 101) : liveLen l = if figLen (l.drop (sgnL l)) = 0 ∨ (sgnL l = 1 ∧ (l.drop 1).head? = some 48) then sgnL l else stopAt l + tailLen (l.drop (stopAt l)) := by
  unfold liveLen stopAt
  rw [if_neg h]
  by_cases h2 : l.head? = some 45
  · have e : sgnL l = 1 := if_pos h2
    rw [if_pos h2, e]
    by_cases h3 : (l.drop 1).head? = some 48
    · rw [if_pos (.inl h3), if_pos (.inr ⟨rfl, h3⟩)]
    · by_cases h4 : dig (l.drop 1) = 0
      · rw [if_pos (.inr h4), if_pos (.inl ((figLen_0 _).mpr ⟨h3, h4⟩))]
      · have e2 : figLen (l.drop 1) = dig (l.drop 1) := if_neg h3
        rw [if_neg (fun z => z.elim h3 h4), if_neg (fun z => z.elim (fun y => h4 ((figLen_0 _).mp y).2) fun y => h3 y.2), e2]
  · have e : sgnL l = 0 := if_neg h2
    rw [if_neg h2, e, List.drop_zero]
    by_cases h3 : l.head? = some 48
    · have e2 : figLen l = 1 := if_pos h3
      rw [if_pos h3, e2, if_neg (by omega), Nat.zero_add]
    · have e2 : figLen l = dig l := if_neg h3
      rw [if_neg h3, e2]
      by_cases h4 : dig l = 0
      · rw [if_pos h4, if_pos (.inl h4)]
      · rw [if_neg h4, if_neg (by omega), Nat.zero_add]
theorem dig_le (l : List Nat) : dig l ≤ l.length := (List.takeWhile_sublist _).length_le
theorem figLen_le (l : List Nat) : figLen l ≤ l.length := by
  unfold figLen
  split
  · cases l with
    | nil => rename_i h; cases h
    | cons c l => simp
  · exact dig_le l
theorem stopAt_le (l : List Nat) : stopAt l ≤ l.length := by
  unfold stopAt
  have h := figLen_le (l.drop (sgnL l))
  rw [List.length_drop] at h
  have : sgnL l ≤ l.length := by
    unfold sgnL
    split
    · cases l with
      | nil => rename_i h; cases h
      | cons c l => simp
    · exact Nat.zero_le _
  omega
theorem isDig_iff {c : Nat} : isDig c = true ↔ 48 ≤ c ∧ c ≤ 57 := by unfold isDig; simp
theorem all_dig (l : List Nat) : NumText.AllDigits (l.takeWhile isDig) := by
  induction l with
  | nil => exact fun _ h => nomatch h
  | cons c l ih =>
    rw [List.takeWhile_cons]
    split
    · rename_i h
      intro x hx
      rcases List.mem_cons.mp hx with rfl | hx
      · exact isDig_iff.mp h
      · exact ih x hx
    · exact fun _ h => nomatch h
theorem noDig_rest (l : List Nat) : NoDig (l.dropWhile isDig) := by
  induction l with
  | nil => exact fun _ h => nomatch h
  | cons c l ih =>
    rw [List.dropWhile_cons]
    split
    · exact ih
    · rename_i h
      intro x hx y
      cases hx
      exact h (isDig_iff.mpr y)
def spFigsG : Sp := fun vs H Q _ => ∃ (l : List Nat) (p : Nat), vs = [.str (S l), .int p] ∧ p ≤ l.length ∧ l.length ≤ 5000 ∧ Q (.int ((p + figLen (l.drop p) : Nat) : Int)) H
def spShared : Sp := fun vs H Q _ => ∃ l w : List Nat, vs = [.str (S l), .str (S w)] ∧ l.length ≤ 5000 ∧ w.length ≤ 5000 ∧ Q (.int (shared l w : Nat)) H
def spLiveG : Sp := fun vs H Q _ => ∃ l : List Nat, vs = [.str (S l)] ∧ l.length ≤ 5000 ∧ Q (.int (liveLen l : Nat)) H
theorem cut_drop (l : List Nat) {i : Nat} (hi : i ≤ l.length) : cutS (S l) (some (i : Int)) (some ((i : Int) + 1)) = S ((l.drop i).take 1) := by
  have e : ((i : Int) + 1) = ((i + 1 : Nat) : Int) := rfl
  rw [e, cut_nat _ hi]
  congr 1
  by_cases h : i + 1 ≤ l.length
  · rw [Nat.min_eq_left h, Nat.add_sub_cancel_left]
  · have : i = l.length := by omega
    subst this
    rw [List.drop_length, List.take_nil, List.take_nil]
theorem cut_one (l : List Nat) : cutS (S l) none (some 1) = S (l.take 1) := by
  have e : (1 : Int) = ((1 : Nat) : Int) := rfl
  rw [e, cut_none]
  cases l with
  | nil => rfl
  | cons c l => congr 1
theorem take_one {l : List Nat} {c : Nat} : l.take 1 = [c] ↔ l.head? = some c := by
  cases l with
  | nil => simp
  | cons d l => simp
end RR
set_option maxHeartbeats 4000000
namespace RR
open PySem PySem.Spec PyProof.Rows L2
/-! ### what a right text writes (law_k06) -/
theorem front_after (l : List Nat) : l = front l ++ (match after l with | none => [] | some r => 47 :: r) := by
  induction l with
  | nil => rfl
  | cons c l ih =>
    by_cases h : c = 47
    · subst h; rfl
    · rw [front_c h, after_c h, List.cons_append, ← ih]
theorem front_free (l : List Nat) : 47 ∉ front l := fun h => by
  have : ∀ c ∈ l.takeWhile fun c => c != 47, c ≠ 47 := by
    clear h
    induction l with
    | nil => exact fun _ h => nomatch h
    | cons c l ih =>
      rw [List.takeWhile_cons]
      split
      · rename_i z
        intro x hx
        rcases List.mem_cons.mp hx with rfl | hx
        · simpa using z
        · exact ih x hx
      · exact fun _ h => nomatch h
  exact this 47 h rfl
theorem part_S (l : List Nat) : Txt.partition (S l) (S [47]) = (match after l with | none => (S l, S [], S []) | some r => (S (front l), S [47], S r)) := by
  have e := front_after l
  cases h : after l with
  | none =>
    rw [h] at e
    have e : l = front l := by simpa using e
    exact SX.partition_none (by decide) (SX.par_head_none (by rw [e]; exact front_free l))
  | some r =>
    rw [h] at e
    exact SX.partition_some (by decide) (by
      rw [show TL.par [47] [] l = TL.par [47] [] (front l ++ ([47] ++ r)) from congrArg _ e]
      exact SX.par_head (sep := []) r (front_free l))
def valL (d : List Nat) : Int := ((NumText.digitsVal d : Nat) : Int)
def topV (l : List Nat) : Int := if (front l).head? = some 45 then -valL (body l) else valL (body l)
def botV (l : List Nat) : Int := match after l with
  | none => 1
  | some r => valL r
theorem allDig_of {d : List Nat} (h : ∀ c ∈ d, isDig c = true) : NumText.AllDigits d := fun c hc => isDig_iff.mp (h c hc)
theorem int_num {d : List Nat} (h : NumP d) (hl : d.length ≤ 640) : PySem.intText? (S d) = some (valL d) :=
  PySem.intText_digits (x := S d) (allDig_of h.2.1) h.1 (by rw [len_S]; omega)
theorem int_front {l : List Nat} (h : NumP (body l)) (hl : (front l).length ≤ 640) : PySem.intText? (S (front l)) = some (topV l) := by
  unfold topV
  unfold body at h ⊢
  by_cases z : (front l).head? = some 45
  · rw [if_pos z] at h ⊢
    rw [if_pos z]
    have e : front l = 45 :: (front l).drop 1 := by
      cases e : front l with
      | nil => rw [e] at z; cases z
      | cons c r => rw [e] at z; cases z; rfl
    exact PySem.intText_neg (x := S (front l)) (cs := (front l).drop 1) e (allDig_of h.2.1) h.1 (by rw [len_S]; omega)
  · rw [if_neg z] at h ⊢
    rw [if_neg z]
    exact int_num h hl
theorem val_pos {d : List Nat} (h : NumP d) (n : d ≠ [48]) : 0 < valL d := by
  obtain ⟨h1, h2, h3⟩ := h
  cases d with
  | nil => exact absurd rfl h1
  | cons c r =>
    have hc := isDig_iff.mp (h2 c List.mem_cons_self)
    have : c ≠ 48 := fun z => by
      rcases h3 with y | y
      · exact n y
      · exact y (by rw [z]; rfl)
    have := NumText.digitsVal_pos (c := c) (cs := r) (by omega)
    unfold valL
    omega
theorem val_lt {d : List Nat} (h : NumText.AllDigits d) : NumText.digitsVal d < 10 ^ d.length := by
  rw [← List.reverse_reverse d] at *
  generalize d.reverse = e at *
  induction e with
  | nil => decide
  | cons c e ih =>
    rw [List.reverse_cons] at *
    have hc := h c (by simp)
    have := ih (fun x hx => h x (by simp at hx ⊢; exact .inl hx))
    rw [NumText.digitsVal_snoc, List.length_append, List.length_singleton, Nat.pow_succ]
    omega
theorem pow_bits {n m : Nat} (h : n < 10 ^ m) : n < 2 ^ (4 * m) := by
  refine Nat.lt_of_lt_of_le h ?_
  rw [Nat.pow_mul]
  exact Nat.pow_le_pow_left (by decide) m
def LastDig (l : List Nat) : Prop := ∃ i c, l = i ++ [c] ∧ isDig c = true
theorem snoc {l : List Nat} (h : l ≠ []) : ∃ i c, l = i ++ [c] := ⟨l.dropLast, l.getLast h, (List.dropLast_concat_getLast h).symm⟩
theorem right_parts {l : List Nat} (e : liveLen l = l.length) (ld : LastDig l) : NumP (body l) ∧ (after l = none ∨ ∃ r, after l = some r ∧ NumP r ∧ r ≠ [48]) := by
  obtain ⟨i, c, el, hc⟩ := ld
  have hl : l ≠ [] := by rw [el]; simp
  have hb := (s0_ok hl).mp (by rw [s0_lives]; exact e)
  rcases hb with h | h | ⟨h1, _, h2⟩
  · exfalso
    have hm : c ∈ endL := by
      have : c ∈ l := by rw [el]; simp
      rw [← h] at this
      exact List.mem_of_mem_take this
    have : ∀ x ∈ endL, isDig x = false := by decide
    rw [this c hm] at hc
    cases hc
  · exfalso
    rw [h] at el
    have : c = 45 := by
      have := congrArg List.getLast? el
      simp at this
      exact this.symm
    rw [this] at hc
    cases hc
  · refine ⟨h1, ?_⟩
    cases ha : after l with
    | none => exact .inl rfl
    | some r =>
      rw [ha] at h2
      rcases h2 with h2 | h2
      · exfalso
        have fa := front_after l
        rw [ha, h2] at fa
        have : c = 47 := by
          have e3 := el.symm.trans fa
          have := congrArg List.getLast? e3
          simp at this
          exact this
        rw [this] at hc
        cases hc
      · exact .inr ⟨r, rfl, h2⟩
def spReadG (K : PySem.W.Frag) (C B : Addr) : Sp := fun vs H Q E => ∃ v, vs = [.ref C, v] ∧
  ((∃ t, TyX K H v t ∧ PySem.W.kitOne K t (.type "str") = some false ∧ BadAt B 0 H E) ∨
   ∃ l : List Nat, v = .str (S l) ∧ l.length ≤ 500 ∧
    ((l = endL ∧ ∀ a H', Same H H' → RatAt C H' a 1 0 → Q (.ref a) H') ∨
     (l ≠ endL ∧ ¬ (liveLen l = l.length ∧ LastDig l) ∧ BadAt B (liveLen l : Nat) H E) ∨
     (l ≠ endL ∧ liveLen l = l.length ∧ LastDig l ∧ NewR C H Q (lo (topV l) (botV l)) (lb (topV l) (botV l)))))
theorem front_len (l : List Nat) : (front l).length ≤ l.length := (List.takeWhile_sublist _).length_le
theorem body_len (l : List Nat) : (body l).length ≤ l.length := by
  have := front_len l
  unfold body
  split
  · rw [List.length_drop]; omega
  · exact this
theorem after_len {l r : List Nat} (h : after l = some r) : r.length < l.length := by
  have e := congrArg List.length (front_after l)
  rw [h] at e
  simp at e
  omega
theorem val_sm {d : List Nat} (h : NumP d) (hl : d.length ≤ 500) : Sm 2000 (valL d) := by
  have h1 := pow_bits (val_lt (allDig_of h.2.1))
  have h2 : 2 ^ (4 * d.length) ≤ 2 ^ 2000 := Nat.pow_le_pow_right (by decide) (by omega)
  unfold Sm valL
  rw [Int.natAbs_natCast]
  exact Nat.lt_of_lt_of_le h1 h2
theorem top_sm {l : List Nat} (h : NumP (body l)) (hl : l.length ≤ 500) : Sm 2000 (topV l) := by
  have := val_sm h (by have := body_len l; omega)
  unfold topV
  split
  · exact sm_neg this
  · exact this
end RR
set_option maxHeartbeats 4000000
namespace RR
open PySem PySem.Spec PyProof.Rows L2 LamX
/-! ### right texts that numbers make -/
theorem front_app : ∀ {a : List Nat}, 47 ∉ a → ∀ r, front (a ++ 47 :: r) = a
  | [], _, r => by unfold front; rw [List.nil_append, List.takeWhile_cons, if_neg (by decide)]
  | c :: a, h, r => by
    rw [List.cons_append, front_c (fun z => h (by rw [z]; exact List.mem_cons_self)), front_app (fun z => h (List.mem_cons_of_mem _ z)) r]
theorem after_app : ∀ {a : List Nat}, 47 ∉ a → ∀ r, after (a ++ 47 :: r) = some r
  | [], _, r => by rw [List.nil_append, after, if_pos rfl]
  | c :: a, h, r => by
    rw [List.cons_append, after_c (fun z => h (by rw [z]; exact List.mem_cons_self)), after_app (fun z => h (List.mem_cons_of_mem _ z)) r]
theorem front_self : ∀ {a : List Nat}, 47 ∉ a → front a = a
  | [], _ => rfl
  | c :: a, h => by
    rw [front_c (fun z => h (by rw [z]; exact List.mem_cons_self)), front_self (fun z => h (List.mem_cons_of_mem _ z))]
theorem after_self : ∀ {a : List Nat}, 47 ∉ a → after a = none
  | [], _ => rfl
  | c :: a, h => by
    rw [after_c (fun z => h (by rw [z]; exact List.mem_cons_self)), after_self (fun z => h (List.mem_cons_of_mem _ z))]
theorem numP_L (n : Nat) : NumP (TL.numL n) := by
  refine ⟨TL.numL_ne n, fun c hc => isDig_iff.mpr (TL.numL_digits n c hc), ?_⟩
  rcases isNum_L n with h | ⟨c, r, e, h, _⟩
  · exact .inl h
  · refine .inr ?_
    rw [e]
    intro z
    have : c = 48 := Option.some.inj z
    omega
theorem numL_pos {n : Nat} (h : n ≠ 0) : TL.numL n ≠ [48] := by
  intro z
  obtain ⟨c, r, e, h1, _⟩ := numL_head h
  rw [e] at z
  have := (List.cons.inj z).1
  omega
theorem free_L (n : Nat) : 47 ∉ TL.numL n := TL.numL_free (by omega)
theorem intL_free (t : Int) : 47 ∉ intL t := by
  unfold intL sgL
  split
  · intro h
    rcases List.mem_append.mp h with h | h
    · exact absurd (List.mem_singleton.mp h) (by decide)
    · exact free_L _ h
  · exact free_L _
theorem head_L (n : Nat) : (TL.numL n).head? ≠ some 45 := by
  obtain ⟨h1, h2, _⟩ := numP_L n
  cases h : TL.numL n with
  | nil => exact absurd h h1
  | cons c r =>
    intro z
    obtain rfl : c = 45 := Option.some.inj z
    exact absurd (h2 45 (by rw [h]; exact List.mem_cons_self)) (by decide)
theorem body_int {l : List Nat} {t : Int} (h : front l = intL t) : body l = TL.numL t.natAbs ∧ topV l = t ∧ front l ≠ [45, 48] := by
  by_cases ht : t < 0
  · have e : front l = 45 :: TL.numL t.natAbs := by rw [h]; unfold intL sgL; rw [if_pos ht]; rfl
    have hh : (front l).head? = some 45 := by rw [e]; rfl
    have eb : body l = TL.numL t.natAbs := by unfold body; rw [if_pos hh, e]; rfl
    refine ⟨eb, ?_, ?_⟩
    · unfold topV valL
      rw [if_pos hh, eb, TL.numL_val]
      omega
    · rw [e]
      intro z
      exact numL_pos (by omega) (List.cons.inj z).2
  · have e : front l = TL.numL t.natAbs := by rw [h]; unfold intL sgL; rw [if_neg ht]; rfl
    have hh : (front l).head? ≠ some 45 := by rw [e]; exact head_L _
    have eb : body l = TL.numL t.natAbs := by unfold body; rw [if_neg hh, e]
    refine ⟨eb, ?_, fun z => hh (by rw [z]; rfl)⟩
    unfold topV valL
    rw [if_neg hh, eb, TL.numL_val]
    omega
theorem live_of {l : List Nat} (hl : l ≠ []) (hb : Begins l) : liveLen l = l.length := by rw [← s0_lives]; exact (s0_ok hl).mpr hb
theorem last_app (a : List Nat) (n : Nat) : LastDig (a ++ TL.numL n) := by
  obtain ⟨i, c, e⟩ := snoc (TL.numL_ne n)
  exact ⟨a ++ i, c, by rw [e, List.append_assoc], isDig_iff.mpr (TL.numL_digits n c (by rw [e]; simp))⟩
theorem not_end {l : List Nat} (h : LastDig l) : l ≠ endL := by
  rintro rfl
  obtain ⟨i, c, e, hc⟩ := h
  have := congrArg List.getLast? e
  rw [List.getLast?_append] at this
  have : (115 : Nat) = c := Option.some.inj this
  subst this
  cases hc
/-- a right text, its value, its signs -/
structure RightT (l : List Nat) (t b : Int) : Prop where
  live : liveLen l = l.length
  last : LastDig l
  top : topV l = t
  bot : botV l = b
  low : ∀ c ∈ l, c < 128
  len : l.length ≤ 100
theorem low_L (n : Nat) : ∀ c ∈ TL.numL n, c < 128 := fun c hc => by
  have := TL.numL_digits n c hc
  omega
theorem low_int (t : Int) : ∀ c ∈ intL t, c < 128 := fun c hc => by
  unfold intL sgL at hc
  split at hc
  · rcases List.mem_append.mp hc with h | h
    · rw [List.mem_singleton.mp h]; decide
    · exact low_L _ c h
  · exact low_L _ c hc
theorem len_L {n : Nat} (h : n < 2 ^ 110) : (TL.numL n).length ≤ 40 := TL.numL_len (by decide) (Nat.lt_trans h (by decide))
theorem len_int {t : Int} (h : Sm 110 t) : (intL t).length ≤ 41 := by
  have e := len_L h
  unfold intL sgL
  rw [List.length_append]
  split
  · show 1 + _ ≤ _; omega
  · show 0 + _ ≤ _; omega
theorem right_one {t : Int} (st : Sm 110 t) : RightT (intL t) t 1 := by
  have hf := front_self (intL_free t)
  have ha := after_self (intL_free t)
  obtain ⟨eb, et, nf⟩ := body_int hf
  have hl : intL t ≠ [] := by
    unfold intL
    intro z
    exact TL.numL_ne _ (List.append_eq_nil_iff.mp z).2
  refine ⟨live_of hl (.inr (.inr ⟨by rw [eb]; exact numP_L _, nf, by rw [ha]; trivial⟩)), last_app _ _, et, by unfold botV; rw [ha], low_int t, by have := len_int st; omega⟩
theorem right_two {t b : Int} (b0 : 0 < b) (st : Sm 110 t) (sb : Sm 110 b) : RightT (intL t ++ 47 :: TL.numL b.natAbs) t b := by
  have hf := front_app (intL_free t) (TL.numL b.natAbs)
  have ha := after_app (intL_free t) (TL.numL b.natAbs)
  obtain ⟨eb, et, nf⟩ := body_int hf
  have hl : intL t ++ 47 :: TL.numL b.natAbs ≠ [] := by simp
  refine ⟨live_of hl (.inr (.inr ⟨by rw [eb]; exact numP_L _, nf, by rw [ha]; exact .inr ⟨numP_L _, numL_pos (by omega)⟩⟩)), ?_, et, ?_, ?_, ?_⟩
  · have := last_app (intL t ++ [47]) b.natAbs
    rw [List.append_assoc] at this
    exact this
  · unfold botV
    rw [ha]
    show ((NumText.digitsVal (TL.numL b.natAbs) : Nat) : Int) = b
    rw [TL.numL_val]
    omega
  · intro c hc
    rcases List.mem_append.mp hc with h | h
    · exact low_int t c h
    · rcases List.mem_cons.mp h with rfl | h
      · decide
      · exact low_L _ c h
  · have e1 := len_int st
    have e2 := len_L sb
    rw [List.length_append, List.length_cons]
    omega
theorem right_txt {t b : Int} (b0 : 0 < b) (st : Sm 110 t) (sb : Sm 110 b) : RightT (txtL t b) t b := by
  unfold txtL botL
  split
  · rename_i h
    subst h
    rw [List.append_nil]
    exact right_one st
  · exact right_two b0 st sb
theorem two_S {t b : Int} (b0 : 0 < b) : (Str.ofString (toString t) ++ (("/" : String) : Str) ++ Str.ofString (toString b)) = S (intL t ++ 47 :: TL.numL b.natAbs) := by
  have e : intL b = TL.numL b.natAbs := by unfold intL sgL; rw [if_neg (by omega)]; rfl
  rw [int_S, int_S, e]
  show SX.S _ ++ SX.S [47] ++ SX.S _ = _
  rw [SX.S_cat, SX.S_cat]
  congr 1
  simp
/-! ### cuts -/
theorem cut_to (l : List Nat) (n : Nat) : cutS (S l) none (some (n : Int)) = S (l.take n) := by
  rw [C8.cutS_slice]
  exact SX.slice_to (a := l) (i := n) (by omega)
theorem cut_from (l : List Nat) (n : Nat) : cutS (S l) (some (n : Int)) none = S (l.drop n) := by
  rw [C8.cutS_slice]
  exact SX.slice_from (a := l) (i := n) (by omega)
/-! ### what is heard, where a text may be wrong -/
theorem heardText {N B D : Addr} {k : Int} {tl : (XK → Hp → VK → Prop)} {H : Hp} {Q : VK} (h : ∀ H0, Same H H0 → tl (wAt D k H0) H0 (fun _ _ => False))
    (kk : ∀ q H2, Same H H2 → H2 q = some (.tup [.str "text", .int k]) → Q (.ref q) H2) : TTg N B D tl H Q :=
  fun H0 s0 => ⟨wAt D k H0, _, h H0 s0, fun _ _ z => z.elim, fun cls d H1 z => by
    obtain ⟨rfl, dd, rfl, s1, e⟩ := z
    exact .inr ⟨dd, k, rfl, e, .inr ⟨rfl, fun q H2 s e2 => kk q H2 (s0.trans (s1.trans s)) e2⟩⟩⟩
theorem heardVal {N B D : Addr} {tl : (XK → Hp → VK → Prop)} {H : Hp} {Q : VK} {R : V → Hp → Prop} (h : ∀ H0, Same H H0 → tl (fun _ _ _ => False) H0 (fun v H1 => Same H0 H1 ∧ R v H1))
    (kk : ∀ v H1 q H2, Same H H1 → R v H1 → Same H1 H2 → H2 q = some (.lst [v]) → Q (.ref q) H2) : TTg N B D tl H Q :=
  fun H0 s0 => ⟨_, _, h H0 s0, fun v H1 z q H2 s e => kk v H1 q H2 (s0.trans z.1) z.2 s e, fun _ _ _ z => z.elim⟩
/-! ### promises of law_k06 -/
def spToldX (C : Addr) : Sp := fun vs H Q _ => (∃ q xs, vs = [.ref q] ∧ H q = some (.tup xs) ∧ Q (.ref q) H) ∨
  (∃ q a t b, vs = [.ref q] ∧ H q = some (.lst [.ref a]) ∧ RatAt C H a t b ∧ ∀ p H', Same H H' → H' p = some (.tup [.int t, .int b]) → Q (.ref p) H')
def LineOk (l : List Nat) : Prop := l = endL ∨ ∃ t b, RightT l t b
def spDrawn : Sp := fun vs H Q _ => ∃ p c ns a g, vs = [.ref p] ∧ PenAt H p c ns a g ∧ a ≤ 98000 ∧
  ∀ l a' g' H', H' p = some (pen c a' g') → Keep p H H' → LineOk l → a ≤ a' → a' ≤ a + 8 → Q (.str (S l)) H'
def spSpoilt : Sp := fun vs H Q _ => ∃ p c ns a g l, vs = [.ref p, .str (S l)] ∧ PenAt H p c ns a g ∧ a ≤ 98000 ∧ l.length ≤ 400 ∧ (∀ c ∈ l, c < 128) ∧
  ∀ l' a' g' H', H' p = some (pen c a' g') → Keep p H H' → l'.length ≤ l.length + 1 → (∀ c ∈ l', c < 128) → a ≤ a' → a' ≤ a + 3 → Q (.str (S l')) H'
def spRightT (T : List (Addr × Str)) : Sp := fun vs H Q _ => ∃ l : List Nat, vs = [.str (S l)] ∧ l.length ≤ 500 ∧ (∀ c ∈ l, c < 128) ∧ Tabs T H ∧ ∀ H', ExtN H H' → Tabs T H' → Q (.bl true) H'
theorem LineOk.len {l : List Nat} (h : LineOk l) : l.length ≤ 100 := by
  rcases h with rfl | ⟨t, b, h⟩
  · decide
  · exact h.len
theorem LineOk.low {l : List Nat} (h : LineOk l) : ∀ c ∈ l, c < 128 := by
  rcases h with rfl | ⟨t, b, h⟩
  · decide
  · exact h.low
theorem shaped_text (k : Int) : SeqAt.shaped (.tuple [.str "text", .int k]) = true := by
  unfold SeqAt.shaped
  rw [Bool.and_eq_true]
  refine ⟨?_, rfl⟩
  show (PyData.canLay0 (.str "text") && (PyData.canLay0 (.int k) && true)) = true
  rw [show PyData.canLay0 (.str "text") = true from by decide +kernel]
  rfl
/-- no text -/
def NoStr (K : PySem.W.Frag) (H : Hp) (v : V) : Prop := ∃ t, TyX K H v t ∧ PySem.W.kitOne K t (.type "str") = some false
theorem NoStr.keepV {K : PySem.W.Frag} {H H' : Hp} {v : V} (k : KeepV H H' v) (h : NoStr K H v) : NoStr K H' v := h.elim fun t y => ⟨t, tyX_keepV k y.1, y.2⟩
end RR
set_option maxHeartbeats 4000000
namespace RR
open PySem PySem.Spec PyProof.Rows L2 LamX
/-! ### repr of a list that holds own instances -/
theorem ifBoundBy_K {M : Model} {A : Around} {Er : Value → Shared → Prop} {s : Shared} {K : PySem.W.Frag} {x C f : Addr} {ox : Obj} {od : Option Obj} {name : Str} {last : Value → List Value → Sem Value} {Q : Option Value → Shared → Prop}
    (X : K.In s.heap) (I : PySem.W.InstAt s.heap x ox C od) (hs : PySem.W.findIn K (.ref C) name = some (some (.ref f))) (hf : PySem.W.isFn K (.ref f) = true)
    (h : wpAny M A (last (.ref f) [.ref x]) (fun v => Q (some v)) Er s) : wpAny M A (callSpecialIfBoundBy? last (.ref x) name) Q Er s := by
  simp only [callSpecialIfBoundBy?, bindSpecialIfBound?]
  refine wpAny_holding (wpAny_bind (wpAny_bind (wpAny_bind (I.type.here ((PySem.W.looks_findIn X hs).here ?_)))))
  refine wpAny_bind (wpAny_askSetting (wpAny_ite ?_))
  have fin : wpAny M A (last (.ref f) [.ref x] >>= fun v => pure (some v)) Q Er s := wpAny_bind (wpAny_mono h (fun v s' h' => wpAny_pure h') fun _ _ h' => h')
  split
  · exact wpAny_bind ((PySem.W.bind_fn X _ (beq_iff_eq.mp hf)).here (wpAny_pure (by exact fin)))
  · exact wpAny_tryCatch (wpAny_bind ((PySem.W.bind_fn X _ (beq_iff_eq.mp hf)).here (wpAny_pure (by exact fin))))
theorem under_own {prog : Program} {w : World} {A : Around} {Er : Value → Shared → Prop} {s : Shared} {K : PySem.W.Frag} {x C f L : Addr} {h₀ : Heap} {m : Str → Option Value} {ox : Obj} {od : Option Obj} {base : Nat} {Q : Str → Shared → Prop} (hb : base ≤ sizeLine) (hu : A.units < cLine) (F : PyProof.Rows.Fr h₀ L s.heap m) (X₀ : K.In h₀)
    (I : PySem.W.InstAt s.heap x ox C od) (hs : PySem.W.findIn K (.ref C) "__repr__" = some (some (.ref f))) (hf : PySem.W.isFn K (.ref f) = true)
    (h : wpAny (model prog w) A (call (.ref f) [.ref x]) (fun v s' => ∃ y u, v = .str y u ∧ Q y s') Er s) : wpAny (model prog w) A (pyReprUnder base (.ref x)) Q Er s := by
  refine wpAny_pyReprUnder_ref hb ?_
  unfold pyReprObjUnder pyReprObjBy
  refine wpAny_bind (wpAny_cRoomFor hu ?_)
  refine wpAny_bind (wpAny_bind (I.type.here ((PySem.W.looks_findIn (X₀.keeps F.keep) hs).here ?_)))
  show wpAny _ _ (if (some (Value.ref f)).isNone = true then _ else _) _ _ _
  rw [if_neg (by simp)]
  refine wpAny_bind (ifBoundBy_K (X₀.keeps F.keep) I hs hf ?_)
  show wpAny _ _ (call (.ref f) ([.ref x] ++ [])) _ _ _
  refine wpAny_mono h (fun v s' hv => ?_) fun _ _ y => y
  obtain ⟨y, u, rfl, hq⟩ := hv
  exact wpAny_bind (wpAny_isInstance (T := "str") (b := true) rfl isSubtype_str_str (wpAny_pure ⟨y, u, rfl, hq⟩))
theorem loop_depth {A : Around} {args : Args} : (A.under (.builtin "list.__repr__.loop" args)).depth = A.depth + 1 := by
  first | rfl | simp [Around.under, Code.weight, Code.isCreation, Code.isGuard, Code.isCaller, Code.frames, Code.isFrame, guardIds]
theorem loop_frames {A : Around} {args : Args} : (A.under (.builtin "list.__repr__.loop" args)).frames = A.frames := by
  first | rfl | simp [Around.under, Code.envs, Code.isFrame, pushEnvs] | (cases h : A.frames <;> simp [Around.under, Code.envs, Code.isFrame, pushEnvs, h])
theorem loop_handled {A : Around} {args : Args} : (A.under (.builtin "list.__repr__.loop" args)).handled = A.handled := by
  first | rfl | simp [Around.under]
theorem Room.loop {k : Nat} {A : Around} (r : Room (k + 1) A) (args : Args) : Room k (A.under (.builtin "list.__repr__.loop" args)) :=
  ⟨by rw [loop_handled]; exact r.hd, by have := r.dp; rw [loop_depth]; omega, by have := r.un; rw [units_under_list_loop]; omega⟩
theorem Env0.loop {P : Program} {w : World} {K : PySem.W.Frag} {mg : Str → Option Value} {base : Heap} {A : Around} {outer : List Env} {s : Shared} {H : Hp} (e : Env0 P w K mg base A outer s H) (args : Args) :
    Env0 P w K mg base (A.under (.builtin "list.__repr__.loop" args)) outer s H := ⟨by rw [loop_frames]; exact e.frames, e.mod, e.bs, e.bsz, e.funs, e.frf, e.hok, e.bare⟩
/-- the text of an item: a whole number, or a ratio -/
def ItemT (C : Addr) (H : Hp) (v : V) (x : Str) : Prop := (∃ n : Int, v = .int n ∧ Sm 1900 n ∧ x = Str.ofString (toString n)) ∨ (∃ c t b, v = .ref c ∧ RatAt C H c t b ∧ Sm 1900 t ∧ Sm 1900 b ∧ x = reprR t b)
theorem ItemT.same {C : Addr} {H H' : Hp} {v : V} {x : Str} (h : ItemT C H v x) (s : Same H H') : ItemT C H' v x := by
  rcases h with h | ⟨c, t, b, e, r, st, sb, ex⟩
  · exact .inl h
  · exact .inr ⟨c, t, b, e, r.same s, st, sb, ex⟩
theorem vals_strs : ∀ {ts : List Str} {us : List Value}, Vals (ts.map V.str) us → ∃ done : List (Str × Tok), us = strValues done ∧ done.map (·.1) = ts
  | [], _, .nil => ⟨[], rfl, rfl⟩
  | x :: ts, _, .cons (l₂ := us) r t => by
    obtain ⟨k, rfl⟩ := r
    obtain ⟨done, e1, e2⟩ := vals_strs (ts := ts) t
    exact ⟨(x, k) :: done, by rw [e1]; rfl, by rw [List.map_cons, e2]⟩
section
variable {X : Cx} {CX : CXT} {C f : Addr} {n : Nat} {E : XK}
theorem repr_loop_own (hs : PySem.W.findIn X.K (.ref C) "__repr__" = some (some (.ref f))) (hf : PySem.W.isFn X.K (.ref f) = true) (F : FnR X.prog X.w X.K X.mg X.base CX n f (spStr C reprR)) (hr : Room (n + 2) X.A) (hx : Passes CX X E)
    {pins : List (Addr × Obj)} {σ : L2.St} {H : Hp} {a P : Addr} {vs : List V} {ts : List Str} (hP : H P = none) (hH : H a = some (.lst vs)) (hl : ts.length = vs.length) (hT : ∀ (i : Nat) v, vs[i]? = some v → ∃ t, ts[i]? = some t ∧ ItemT C H v t) (hsz : (listText ts).length ≤ sizeLine)
    {R : Result → Shared → Prop} (hR : ∀ s' u, Inv X pins σ (upd H P (.lst (ts.map V.str))) s' → R (.ok (.ret (.str (listText ts) u))) s') (hE : ∀ e s', X.xe e s' → R (.error e) s') :
    ∀ (k i : Nat) (s : Shared), vs.length - i = k → i ≤ vs.length → Inv X pins σ (upd H P (.lst ((ts.take i).map V.str))) s →
    codeAny (model X.prog X.w) X.A.in1 (.builtin "list.__repr__.loop" ⟨[.ref a, rawInt i, .ref P, rawInt ((0 + piled (ts.take i) : Nat) : Int)], []⟩) R s := by
  have hX : (listText ts).length = (textFrom 0 "[" ts).length + 1 := by
    show (textFrom 0 "[" ts ++ "]").length = _
    rw [strLen_append]; rfl
  have hL := textFrom_len ts 0 "["
  have hsz1 : vs.length ≤ sizeLine := by
    have h1 := hL.1
    rw [if_neg (Nat.lt_irrefl 0)] at h1
    omega
  have hsz2 : ∀ t ∈ ts, t.length ≤ sizeLine := fun t ht => by
    have h2 := hL.2.1 t ht
    omega
  have hp3 := piled_le_listText ts
  have hne : a ≠ P := ne_of_none hH hP
  have hHa : ∀ o, (upd H P o) a = some (.lst vs) := fun o => (upd_ne hne).trans hH
  intro k
  induction k with
  | zero =>
    intro i s hk hi I
    have hin : i = vs.length := by omega
    obtain ⟨its, n0, rI, ha, _⟩ := I.lst (hHa _)
    obtain ⟨acc, n1, rP, hP1, _⟩ := I.lst upd_same
    obtain ⟨done, e1, e2⟩ := vals_strs rP
    refine codeAny_builtin PySem.F.entry_list_repr_loop ?_
    show wpAny _ _ (Builtin.«list.__repr__.loop» ⟨[.ref a, .int i 0, .ref P, .int ((0 + piled (ts.take i) : Nat) : Int) 0], []⟩) _ _ s
    rw [repr_loop_tree]
    refine wpAny_bind (wpAny_listItems ha rfl ?_)
    have hnone : its.toArray[(i : Int).toNat]? = none := by
      have := rI.length
      simp [hin]
      omega
    simp only [hnone]
    unfold reprEnd
    refine wpAny_bind (wpAny_listItems hP1 rfl ?_)
    rw [show acc.toArray.toList = strValues done from by rw [e1], repr_fold]
    refine wpAny_bind (wpAny_pure ?_)
    have hall : done.map (·.1) = ts := by rw [e2, hin, ← hl, List.take_length]
    rw [hall]
    refine wpAny_bind (wpAny_mkStr (wpAny_pure ?_) (show (listText ts).length ≤ sizeLine from hsz))
    rw [show ts.take i = ts from by rw [hin, ← hl, List.take_length]] at I
    exact hR _ _ (I.tok _)
  | succ k ih =>
    intro i s hk hi I
    have hlt : i < vs.length := by omega
    obtain ⟨its, n0, rI, ha, _⟩ := I.lst (hHa _)
    obtain ⟨t, ht, hit⟩ := hT i vs[i] (by simp [hlt])
    obtain ⟨u, hu1, ru⟩ := rI.get (i := i) (x := vs[i]) (by simp [hlt])
    have hp1 := piled_take_succ ht
    have hp2 := piled_take_le ts (i + 1)
    have hb : 0 + piled (ts.take i) + 1 + t.length ≤ sizeLine := by omega
    have S0 := Same.new (o := .lst ((ts.take i).map V.str)) hP
    refine codeAny_builtin PySem.F.entry_list_repr_loop ?_
    show wpAny _ _ (Builtin.«list.__repr__.loop» ⟨[.ref a, .int i 0, .ref P, .int ((0 + piled (ts.take i) : Nat) : Int) 0], []⟩) _ _ s
    rw [repr_loop_tree]
    refine wpAny_bind (wpAny_listItems ha rfl ?_)
    have hsome : its.toArray[(i : Int).toNat]? = some u := by simpa using hu1
    simp only [hsome]
    rw [Int.toNat_natCast]
    have next : ∀ s1, Inv X pins σ (upd H P (.lst ((ts.take i).map V.str))) s1 → wpAny (model X.prog X.w) (X.A.in1.under (.builtin "list.__repr__.loop" ⟨[.ref a, rawInt i, .ref P, rawInt ((0 + piled (ts.take i) : Nat) : Int)], []⟩)) (do
        let r ← mkStr t
        Builtin.List.listUpdate (.ref P) (·.push r)
        again (.builtin "list.__repr__.loop" ⟨[.ref a, rawInt ((i : Int) + 1), .ref P, rawInt ((0 + piled (ts.take i) + (t.length + 2) : Nat) : Int)], []⟩))
        (fun fin s' => match fin with | .done f => R (.ok f) s' | .again c' => c'.quiet = true ∧ codeAny (model X.prog X.w) X.A.in1 c' R s') (fun e s' => R (.error e) s') s1 := by
      intro s1 I1
      refine wpAny_bind (wpAny_mkStr ?_ (hsz2 t (List.mem_of_getElem? ht)))
      refine wpAny_bind ?_
      obtain ⟨acc, n1, rP, hP1, za⟩ := I1.lst upd_same
      show wpAny _ _ (updateSeq P _) _ _ _
      have la := rP.length
      refine wpAny_updateSeq hP1 rfl (wpAny_pure ⟨PySem.F.quiet_list_repr_loop _, ?_⟩) (by rw [List.size_toArray]; omega)
      have e1 : ((i : Int) + 1) = ((i + 1 : Nat) : Int) := by omega
      have e2 : 0 + piled (ts.take i) + (t.length + 2) = 0 + piled (ts.take (i + 1)) := by omega
      rw [e1, e2]
      refine ih (i + 1) _ (by omega) hlt ?_
      have I2 := I1.lset (f := fun x => x.push (.str t s1.toks)) (its' := acc ++ [.str t s1.toks]) (ys := (ts.take (i + 1)).map V.str) (t' := s1.toks + 1) upd_same hP1 (by simp) (by
        rw [List.take_add_one, ht, List.map_append]
        exact rP.append (.cons ⟨_, rfl⟩ .nil)) (by rw [List.length_map, List.length_take]; omega)
      rw [upd_upd] at I2
      exact I2
    refine wpAny_bind (wpAny_holding ?_)
    rcases hit with ⟨m, e, sm, ex⟩ | ⟨c, tt, b, e, r, st, sb, ex⟩
    · rw [e] at ru
      obtain ⟨k', rfl⟩ := ru
      have q := ReprIs.int (prog := X.prog) (w := X.w) k' (log_of sm)
      rw [show ((toString m : String) : Str) = t from ex.symm] at q
      exact q _ hb _ _ s _ fun tk => next _ (I.tok tk)
    · rw [e] at ru
      obtain rfl : u = .ref c := ru
      have r' := r.same S0
      obtain ⟨dx, ea⟩ := id r'
      obtain ⟨od, J⟩ := inst_of I ea
      obtain ⟨m, fr⟩ := I.fr
      have hr2 := Room.loop (k := n) (Room.in1 hr) ⟨[.ref a, rawInt i, .ref P, rawInt ((0 + piled (ts.take i) : Nat) : Int)], []⟩
      refine under_own (by omega) hr2.units0 fr I.ok.mod.kin J hs hf ?_
      refine wpAny_mono (run_in (us := [.ref c]) (vs := [.ref c]) F hr2 (Env0.loop I.env0.in1 _) hx I (.cons rfl .nil) (Q := fun v H2 => v = .str t ∧ H2 = upd H P (.lst ((ts.take i).map V.str))) ⟨c, tt, b, rfl, r', st, sb, by rw [ex], rfl⟩) (fun v s' z => ?_) fun e s' z => hE e s' z
      obtain ⟨x, H2, I2, rx, rfl, rfl⟩ := z
      obtain ⟨k', rfl⟩ := rx
      exact ⟨t, k', rfl, next _ I2⟩
/-- repr(x), x a list of whole numbers and ratios -/
def rReprL (C : Addr) : List V → Hp → VK → Prop := fun xs H Q => ∃ a vs ts, xs = [.ref a] ∧ H a = some (.lst vs) ∧ ts.length = vs.length ∧ (∀ (i : Nat) v, vs[i]? = some v → ∃ t, ts[i]? = some t ∧ ItemT C H v t) ∧ (listText ts).length ≤ sizeLine ∧ ∀ H', Same H H' → Q (.str (listText ts)) H'
theorem call_reprL (hs : PySem.W.findIn X.K (.ref C) "__repr__" = some (some (.ref f))) (hf : PySem.W.isFn X.K (.ref f) = true) (F : FnR X.prog X.w X.K X.mg X.base CX n f (spStr C reprR)) (hr : Room (n + 2) X.A) (hx : Passes CX X E) (fr : Free X.A) : CallR X (.builtin "repr") (rReprL C) := by
  intro pins s σ H xs us Q I rv h
  obtain ⟨a, vs, ts, rfl, hH, hl, hT, hsz, q⟩ := h
  cases vs with
  | nil =>
    obtain rfl : ts = [] := List.eq_nil_of_length_eq_zero hl
    exact call_repr (by have := hr.units; omega) fr pins s σ H _ us Q I rv ⟨a, .list [], rfl, .lst (SqL.of hH) .nil, rfl, rfl, (show 0 + 1 ≤ 20 by decide), hsz, q H (Same.refl H)⟩
  | cons v0 vr =>
  obtain ⟨u, rfl, ru⟩ := rv.one
  obtain rfl : u = .ref a := ru
  obtain ⟨its, n0, rI, ha, _⟩ := I.lst hH
  obtain ⟨x, l, rfl⟩ : ∃ x l, its = x :: l := by
    cases its with
    | nil => have := rI.length; simp at this
    | cons x l => exact ⟨x, l, rfl⟩
  refine call_repr_slot (T := "list") (by have := hr.units; omega) ⟨_, ha, rfl⟩ PySem.F.slot_list_repr.toG ?_
  refine wpAny_call (codeAny_call_builtin PySem.F.slot_list_repr.plain PySem.F.entry_list_repr (PySem.F.slot_list_repr.check _ _ _ _ _ _ _ _ ⟨_, ha, rfl⟩ (PySem.F.args_list_repr_1 _) ?_))
  show wpAny _ _ (Builtin.listReprAt 0 ⟨[.ref a], []⟩) _ _ s
  refine wpAny_list_repr_head (A := X.A.in1.in1) (g := []) fr (fun v rest kw hm => nomatch hm) ha rfl ?_
  refine wpAny_bind (m := newList []) (wpAny_newObj_type ?_)
  refine wpAny_pure ⟨PySem.F.quiet_list_repr_loop _, ?_⟩
  have hP : H s.heap.objs.size = none := I.hok.fresh (Nat.le_refl _)
  have I1 : Inv X pins σ (upd H s.heap.objs.size (.lst [])) { s with heap := s.heap.push { cls := .type "list", dict := none, data := .seq #[] 0 } } :=
    I.laid (t' := s.toks) (fun b u e => Heap.get?_push_of_some _ e) (Nat.le_refl _) ⟨by show 0 ≤ sizeLine; decide, [], 0, .nil, Heap.get?_push_size _ rfl⟩
  refine repr_loop_own hs hf F hr hx hP hH hl hT hsz (fun s' u I' => ?_) (fun e s' z => z) _ 0 _ rfl (Nat.zero_le _) I1
  exact ⟨_, _, rfl, .str (listText ts), _, I', ⟨u, rfl⟩, q _ (Same.new hP)⟩
end
end RR
set_option maxHeartbeats 4000000
namespace RR
open PySem PySem.Spec PyProof.Rows L2 LamX
open AutoSeq1 (wpAny_loadPart')
/-! ### enumerate(tuple) -/
theorem meets_enumT (l : Addr) (items : Array Value) (n : Nat) (dct : Option Addr) (sl : Array (Option Value)) :
    Meets (Builtin.«enumerate.__new__» ⟨[.type "enumerate", .ref l], []⟩) (fun _ R s => s.heap.get? l = some { cls := .type "tuple", dict := dct, data := .seq items n, slots := sl } ∧
      R (.ok (.ret (.ref (s.heap.push { cls := .type "tuple_iterator", data := .fields #[.ref l, .int 0 0] }).objs.size)))
        { s with heap := (s.heap.push { cls := .type "tuple_iterator", data := .fields #[.ref l, .int 0 0] }).push { cls := .type "enumerate", data := .fields #[.none, .bool false, .ref s.heap.objs.size, rawInt 0, .none, .none] } }) :=
  .of_wp fun prog w A R s h => by
    obtain ⟨hp, g, d, tk, os⟩ := s; obtain ⟨hl, h⟩ := h
    have hsub := sub_enumerate
    have hL : Heap.IsTuple (Shared.heap ⟨hp, g, d, tk, os⟩) l items := ⟨_, hl, rfl, n, rfl⟩
    wp_walk using wpAny_loadPart' hl
    refine wpAny_stack_any fun st => wpAny_pure ?_
    split
    · rename_i c _ _ _ _ _
      cases (c == Value.type "enumerate")
      · wp_walk using wpAny_loadPart' hl, wpAny_pyIter_tuple hL
        exact ⟨_, rfl, h⟩
      · wp_walk using wpAny_loadPart' hl, wpAny_pyIter_tuple hL
        exact ⟨_, rfl, h⟩
    · wp_walk using wpAny_loadPart' hl, wpAny_pyIter_tuple hL
      exact ⟨_, rfl, h⟩
section
variable {prog : Program} {w : World} {A : Around} {E : Value → Shared → Prop} {s : Shared}
theorem call_enumT {l : Addr} {items : Array Value} {Q : Value → Shared → Prop} (hL : s.heap.IsTuple l items)
    (h : ∀ h', IsEnum h' (s.heap.objs.size + 1) s.heap.objs.size 0 .none → h'.IsTupleIter s.heap.objs.size l 0 → h'.objs.size = s.heap.objs.size + 2 →
      (∀ b o, s.heap.get? b = some o → h'.get? b = some o) → Q (.ref (s.heap.objs.size + 1)) { s with heap := h' }) :
    wpAny (model prog w) A (call (.type "enumerate") [.ref l]) Q E s := by
  obtain ⟨⟨c, dct, dt, sl⟩, hl, hc, n, hd⟩ := hL
  replace hc : c = .type "tuple" := hc
  replace hd : dt = .seq items n := hd
  subst hc hd
  refine callType_new PySem.F.called_enumerate (by decide) (PySem.F.typeCall_enumerate_1 _) (PySem.F.newCall_enumerate_1 _) (fun obj => PySem.F.args_object_init_2 obj _) PySem.F.entry_enumerate_new
    (meets_enumT l items n dct sl) ⟨hl, ?_⟩
  have hz : (s.heap.push { cls := .type "tuple_iterator", data := .fields #[.ref l, .int 0 0] }).objs.size = s.heap.objs.size + 1 := Heap.size_push ..
  show _ ∧ _
  rw [hz]
  have he : IsEnum ((s.heap.push { cls := .type "tuple_iterator", data := .fields #[.ref l, .int 0 0] }).push
      { cls := .type "enumerate", data := .fields #[.none, .bool false, .ref s.heap.objs.size, rawInt 0, .none, .none] }) (s.heap.objs.size + 1) s.heap.objs.size 0 .none := by
    have := Heap.get?_push_size (s.heap.push { cls := .type "tuple_iterator", data := .fields #[.ref l, .int 0 0] })
      (o := { cls := .type "enumerate", data := .fields #[.none, .bool false, .ref s.heap.objs.size, rawInt 0, .none, .none] }) rfl
    rw [hz] at this; exact this
  refine ⟨⟨_, he, rfl⟩, h _ he ⟨_, Heap.get?_push_of_some _ (Heap.get?_push_size _ rfl), rfl, rfl⟩ (by rw [Heap.size_push, hz]) fun b o x => Heap.get?_push_of_some _ (Heap.get?_push_of_some _ x)⟩
end
def ItT (K : PySem.W.Frag) (a : Addr) : It :=
  ⟨fun i H => ∃ (xs : List V) (x : V), SqT K H a xs ∧ xs[i]? = some x, fun i H v H' => ∃ T x, v = .ref T ∧ H T = none ∧ H' = upd H T (.tup [.int (i : Nat), x]) ∧ ∀ xs, SqT K H a xs → xs[i]? = some x, fun i H => ∃ xs : List V, SqT K H a xs ∧ xs.length ≤ i⟩
theorem turn_enumT {P : Program} {w : World} {K : PySem.W.Frag} {elts : List Expr} {kk : Nat} {tpos : Pos} (a e it : Addr) :
    Turn P w K (.Tuple elts kk tpos) (ItT K a) [e, it] e (fun i h => (∃ old, IsEnum h e it ((i : Nat) : Int) old) ∧ h.IsTupleIter it a i ∧ e ≠ it) where
  mem := by simp
  obj := fun i h st b hb => by
    obtain ⟨⟨old, he⟩, ⟨o, ho, hc, hd⟩, _⟩ := st
    have e' : b = e ∨ b = it := by simpa using hb
    rcases e' with z | z
    · rw [z]; exact ⟨_, he, fun v q => nomatch q⟩
    · rw [z]; exact ⟨o, ho, fun v q => by rw [hd] at q; cases q⟩
  keep := fun i h h' st k => let ⟨⟨old, he⟩, hi, hne⟩ := st; ⟨⟨old, k e (by simp) _ he⟩, hi.at fun o q => k it (by simp) o q, hne⟩
  item := by
    intro X hP hw hK hc i pins s σ H E I hf st hg
    subst hP hw hK
    obtain ⟨⟨old, he⟩, hit, hne⟩ := st
    obtain ⟨xs, x, hq, hx⟩ := hg
    obtain ⟨its, rv, p, hz⟩ := I.tuple hq
    have p : s.heap.IsTuple a its.toArray := p
    obtain ⟨u, hu, ru⟩ := rv.get hx
    have hel : e < s.heap.objs.size := Heap.lt_size he
    have hil : it < s.heap.objs.size := by obtain ⟨_, q, _⟩ := hit; exact Heap.lt_size q
    have hea : e ≠ a := by
      rintro rfl
      obtain ⟨o, h1, h2, _⟩ := p
      rw [he] at h1
      rw [← Option.some.inj h1] at h2
      exact absurd (congrArg (fun v => match v with | Value.type n => n | _ => "") h2) (show ¬ ("enumerate" : String) = "tuple" by decide)
    have hai : a ≠ it := by
      rintro rfl
      obtain ⟨o, h1, h2, _⟩ := p
      obtain ⟨o', h3, h4, _⟩ := hit
      rw [h1] at h3
      rw [← Option.some.inj h3, h2] at h4
      exact absurd (congrArg (fun v => match v with | Value.type n => n | _ => "") h4) (by decide)
    have hlen : i < its.toArray.size := by
      have := (List.getElem?_eq_some_iff.mp hu).1
      simpa using this
    refine wpAny_pyNext_enum_itemD (Draws.tuple (A := X.A.in1) (I.ok.hd hc) it a hai its.toArray) he ⟨hit, p⟩ hlen hne (by simp [hne, hea]) fun x' h' tk hPx ho hst hT hsz hk => ?_
    obtain rfl : x' = u := by
      have e1 : its.toArray[i]? = some u := by simpa using hu
      rw [show its.toArray[i]? = some x' from hPx] at e1
      exact Option.some.inj e1
    refine ⟨_, rfl, wpAny_letOwnedTupleGo_enum (s := { s with heap := h', toks := tk + 1 }) ho fun h'' he' sb => ?_⟩
    have hT2 : h''.get? s.heap.objs.size = some { cls := .type "tuple", data := .seq #[.int i tk, x'] } := (sb.2 _ (Nat.ne_of_gt hel)).trans hT
    have new : ObjOk X.prog X.w (upd H s.heap.objs.size (.tup [.int (i : Nat), x])) h'' s.heap.objs.size (.tup [.int (i : Nat), x]) :=
      ⟨by show 2 ≤ sizeLine; decide, [.int i tk, x'], .cons ⟨_, rfl⟩ (.cons ru .nil), ⟨_, hT2, rfl, _, rfl⟩⟩
    have I1 : Inv X pins σ (upd H s.heap.objs.size (.tup [.int (i : Nat), x])) { s with heap := h'', toks := tk + 1 } :=
      I.turnedNew (ch := [e, it]) (fun b ob hb q => (sb.2 b (fun z => hb (by simp [z]))).trans (hk b ob (fun z => hb (by simp [z])) (fun z => hb (by simp [z])) q)) hf (Nat.le_refl _) new
    refine ⟨.ref s.heap.objs.size, _, I1, rfl, ⟨_, x, rfl, I.hok.fresh (Nat.le_refl _), rfl, fun ys hy => by rw [I.tuple_inj hy hq]; exact hx⟩, ⟨⟨x', ?_⟩, hst.1.at fun o q => (sb.2 it (Ne.symm hne)).trans q, hne⟩, fun b hb => ?_⟩
    · have e1 : ((i + 1 : Nat) : Int) = (i : Int) + 1 := by omega
      rw [e1]; exact he'
    · have hb' : b < s.heap.objs.size := by
        have e' : b = e ∨ b = it := by simpa using hb
        rcases e' with z | z
        · rw [z]; exact hel
        · rw [z]; exact hil
      rw [upd_ne (Nat.ne_of_lt hb')]
      exact (hf b hb).1
  done := by
    intro X hP hw hK hc i pins s σ H E I hf st hg
    subst hP hw hK
    obtain ⟨⟨old, he⟩, hit, hne⟩ := st
    obtain ⟨xs, hq, hx⟩ := hg
    obtain ⟨its, rv, p, hz⟩ := I.tuple hq
    have p : s.heap.IsTuple a its.toArray := p
    obtain ⟨f0, f1, f2, f3, f4, f5⟩ := hf it (by simp)
    have hl := rv.length
    have hT : s.TypeIs (.ref e) "enumerate" := ⟨_, he, rfl⟩
    unfold pyNext
    refine wpAny_bind (wpAny_attempt (wpAny_callSpecial?_slot (name := Str.ofString "__next__") hT PySem.F.slot_enumerate_next
      (wpAny_call_entry PySem.F.slot_enumerate_next hT PySem.F.entry_enumerate_next ?_ (PySem.F.args_enumerate_next_1 _))))
    show wpAny _ _ (field (.ref e) 2 >>= _) _ _ _
    refine wpAny_bind (wpAny_field he rfl (x := .ref it) rfl ?_)
    refine wpAny_bind (wpAny_nextOf_tuple_end (I.ok.hd hc) hit p (by simp; omega) fun h' x he' hx' => ?_)
    obtain ⟨o, ho, hc'⟩ := hx'
    refine wpAny_bind (wpAny_isInstance (T := "StopIteration") (b := true) ⟨o, ho, hc'⟩ isSubtype_stop ?_)
    exact wpAny_pure ⟨rfl, I.turned (t' := s.toks) (fun b o hb q => he' b o hb q) f0 f1 f3 f4 f5⟩
  self := fun A i s Q E st h => let ⟨⟨_, he⟩, _⟩ := st; wpAny_pyIter_enum he h
def iEnumT (K : PySem.W.Frag) (ta : TA) : TI := fun σ H R => ta σ H fun vs H1 => ∃ a xs, vs = [.ref a] ∧ SqT K H1 a xs ∧ R (ItT K a) H1
theorem pi_enumT {X : Cx} {e : Expr} {ta : TA} {p pos tpos : Pos} {elts : List Expr} {kk : Nat} (hg : Gl X "enumerate") (hm : X.mg "enumerate" = none) (ha : PA X [e] ta) (hs : starEach [e] X.env = [(false, eval e X.env)] := by rfl) :
    PI X (.Tuple elts kk tpos) (.Call (.Name "enumerate" p) [e] [] pos) (iEnumT X.K ta) := by
  refine ⟨fun pins s σ H R I h => ?_⟩
  refine Call_ (ld_blt I hg hm boot_enumerate (PyProof.Rows.callWith_type1 (thn (ha.run pos pins s σ H _ I h) fun us s1 ⟨vs, H1, I1, r1, q1⟩ => ?_) hs rfl))
  obtain ⟨a, xs, ex, hq, q⟩ := q1
  subst ex
  cases r1 with
  | cons r rr =>
    cases rr
    cases r
    obtain ⟨its, rv, p', hz⟩ := I1.tuple hq
    refine call_enumT (show s1.heap.IsTuple a its.toArray from p') fun h' he hit hsz hk => wpAny_pyIter_enum he ?_
    have I2 : Inv X pins σ H1 { s1 with heap := h' } := I1.kept (t' := s1.toks) hk
    refine ⟨s1.heap.objs.size + 1, [s1.heap.objs.size + 1, s1.heap.objs.size], _, _, H1, rfl, I2, turn_enumT a (s1.heap.objs.size + 1) s1.heap.objs.size, ⟨⟨.none, he⟩, hit, Nat.succ_ne_self _⟩, fun b hb => ?_, q⟩
    have e' : b = s1.heap.objs.size + 1 ∨ b = s1.heap.objs.size := by simpa using hb
    have hle : s1.heap.objs.size ≤ b := by
      rcases e' with z | z
      · rw [z]; exact Nat.le_add_right _ _
      · rw [z]; exact Nat.le_refl _
    exact I1.fpOk hle (I1.hok.fresh hle)
theorem walk_enumT {K : PySem.W.Frag} {a : Addr} {xs : List V} : Walk (ItT K a) xs.length (fun H => SqT K H a xs) (YPair (fun i => some (.int (i : Nat))) (fun i => xs[i]?)) := by
  refine ⟨fun i _ hi q => ⟨xs, xs[i], q, by simp [hi]⟩, fun _ q => ⟨xs, q, Nat.le_refl _⟩, fun i H v H' _ q y => ?_⟩
  obtain ⟨T, x, h1, h2, h3, h4⟩ := y
  exact ⟨T, .int (i : Nat), x, h1, h2, h3, rfl, h4 xs q⟩
/-- one of two ways -/
def iOr (w1 w2 : TI) : TI := fun σ H R => w1 σ H R ∨ w2 σ H R
theorem pi_or {X : Cx} {tg e : Expr} {w1 w2 : TI} (h1 : PI X tg e w1) (h2 : PI X tg e w2) : PI X tg e (iOr w1 w2) :=
  ⟨fun pins s σ H R I h => h.elim (h1.run pins s σ H R I) (h2.run pins s σ H R I)⟩
end RR
set_option maxHeartbeats 4000000
namespace RR
open PySem PySem.Spec PyProof.Rows L2 LamX
/-! ### law_k05: what is reckoned of pairs -/
abbrev Pq := Int × Int
def addP (f p : Pq) : Pq := (lo (f.1 * p.2 + p.1 * f.2) (f.2 * p.2), lb (f.1 * p.2 + p.1 * f.2) (f.2 * p.2))
def sumP (ps : List Pq) : Pq := ps.foldl addP (0, 1)
def anyEnd (ps : List Pq) : Bool := ps.any fun p => decide (p.2 = 0)
def anyNeg (ps : List Pq) : Bool := ps.any fun p => decide (p.1 < 0)
def totP (ps : List Pq) : Deed := if anyEnd ps = true then (if anyNeg ps = true then none else some (1, 0)) else some (sumP ps)
def gB (f p : Pq) : Pq := if f.1 * p.2 < p.1 * f.2 then p else f
def lB (f p : Pq) : Pq := if p.1 * f.2 < f.1 * p.2 then p else f
def greatP : List Pq → Pq
  | [] => (0, 1)
  | p :: r => (p :: r).foldl gB p
def leastP : List Pq → Pq
  | [] => (1, 0)
  | p :: r => (p :: r).foldl lB p
def GP (p : Pq) : Prop := LowE p.1 p.2 ∧ Sm 100 p.1 ∧ Sm 100 p.2
theorem foldl_take {α β : Type} (f : α → β → α) (a : α) {l : List β} {i : Nat} {x : β} (h : l[i]? = some x) : (l.take (i + 1)).foldl f a = f ((l.take i).foldl f a) x := by
  rw [List.take_add_one, h, List.foldl_append]
  rfl
theorem lo_nonneg {t b : Int} (h : 0 ≤ t) (b0 : 0 < b) : 0 ≤ lo t b := by
  unfold lo
  exact Int.ediv_nonneg h (by have := gd_pos (t := t) b0; omega)
structure SumAt (i : Nat) (f : Pq) : Prop where
  pos : 0 < f.2
  st : Sm (101 * i + 1) f.1
  sb : Sm (100 * i + 1) f.2
theorem SumAt.zero : SumAt 0 (0, 1) := ⟨by decide, by decide, by decide⟩
theorem SumAt.next {i : Nat} {f p : Pq} (h : SumAt i f) (g : GP p) (p0 : 0 < p.2) : SumAt (i + 1) (addP f p) := by
  have b0 := Int.mul_pos h.pos p0
  have s1 : Sm (101 * i + 101) (f.1 * p.2) := sm_mono (sm_mul h.st g.2.2) (by omega)
  have s2 : Sm (101 * i + 101) (p.1 * f.2) := sm_mono (sm_mul g.2.1 h.sb) (by omega)
  have s3 : Sm (100 * i + 101) (f.2 * p.2) := sm_mono (sm_mul h.sb g.2.2) (by omega)
  refine ⟨lb_pos b0, ?_, ?_⟩
  · exact sm_mono (lo_small (sm_add s1 s2) b0) (by omega)
  · exact sm_mono (lb_small s3 b0) (by omega)
theorem gp_pos {p : Pq} (g : GP p) (h : p.2 ≠ 0) : 0 < p.2 := by
  rcases g.1 with h1 | h1
  · exact h1.1
  · exact absurd h1.2 h
theorem gp_end {p : Pq} (g : GP p) (h : p.2 = 0) : p = (1, 0) := by
  rcases g.1 with h1 | h1
  · have := h1.1; omega
  · exact Prod.ext h1.1 h1.2
theorem gp_nonneg {p : Pq} (g : GP p) : 0 ≤ p.2 := by
  rcases g.1 with h1 | h1
  · have := h1.1; omega
  · omega
theorem sum_at {ps : List Pq} (hg : ∀ p ∈ ps, GP p) (he : anyEnd ps = false) : ∀ i, i ≤ ps.length → SumAt i ((ps.take i).foldl addP (0, 1)) := by
  intro i
  induction i with
  | zero => exact fun _ => SumAt.zero
  | succ i ih =>
    intro hi
    have hx : ps[i]? = some ps[i] := by simp [Nat.lt_of_succ_le hi]
    have hm := List.mem_of_getElem? hx
    rw [foldl_take addP _ hx]
    refine (ih (by omega)).next (hg _ hm) (gp_pos (hg _ hm) fun z => ?_)
    have : anyEnd ps = true := List.any_eq_true.mpr ⟨_, hm, decide_eq_true z⟩
    rw [he] at this
    cases this
def endSum (ps : List Pq) : Pq := if anyEnd ps = true then (1, 0) else ps.foldl addP (0, 1)
theorem foldl_nonneg {ps : List Pq} (hg : ∀ p ∈ ps, GP p) (he : anyEnd ps = false) (hn : anyNeg ps = false) : 0 ≤ (ps.foldl addP (0, 1)).1 := by
  have key : ∀ i, i ≤ ps.length → 0 ≤ ((ps.take i).foldl addP (0, 1)).1 := by
    intro i
    induction i with
    | zero => exact fun _ => (show (0 : Int) ≤ 0 by decide)
    | succ i ih =>
      intro hi
      have hx : ps[i]? = some ps[i] := by simp [Nat.lt_of_succ_le hi]
      have hm := List.mem_of_getElem? hx
      have h1 := sum_at hg he i (by omega)
      have hp : 0 < ps[i].2 := gp_pos (hg _ hm) fun z => by
        have : anyEnd ps = true := List.any_eq_true.mpr ⟨_, hm, decide_eq_true z⟩
        rw [he] at this
        cases this
      have hq : 0 ≤ ps[i].1 := by
        have : ¬ ps[i].1 < 0 := fun z => by
          have : anyNeg ps = true := List.any_eq_true.mpr ⟨_, hm, decide_eq_true z⟩
          rw [hn] at this
          cases this
        omega
      rw [foldl_take addP _ hx]
      have h2 := ih (by omega)
      exact lo_nonneg (by
        have a1 := Int.mul_nonneg h2 (show 0 ≤ ps[i].2 by omega)
        have a2 := Int.mul_nonneg hq (show 0 ≤ ((ps.take i).foldl addP (0, 1)).2 by have := h1.pos; omega)
        omega) (Int.mul_pos h1.pos hp)
  have := key ps.length (Nat.le_refl _)
  rwa [List.take_length] at this
theorem anyEnd_take {ps : List Pq} {i : Nat} {p : Pq} (h : ps[i]? = some p) : anyEnd (ps.take (i + 1)) = (anyEnd (ps.take i) || decide (p.2 = 0)) := by
  unfold anyEnd
  rw [List.take_add_one, h, List.any_append]
  simp
theorem anyNeg_take {ps : List Pq} {i : Nat} {p : Pq} (h : ps[i]? = some p) : anyNeg (ps.take (i + 1)) = (anyNeg (ps.take i) || decide (p.1 < 0)) := by
  unfold anyNeg
  rw [List.take_add_one, h, List.any_append]
  simp
theorem anyNeg_of_take {ps : List Pq} (h : anyNeg ps = false) (i : Nat) : anyNeg (ps.take i) = false := by
  unfold anyNeg at *
  rw [List.any_eq_false] at *
  exact fun x hx => h x (List.mem_of_mem_take hx)
theorem anyEnd_of_take {ps : List Pq} (h : anyEnd ps = false) (i : Nat) : anyEnd (ps.take i) = false := by
  unfold anyEnd at *
  rw [List.any_eq_false] at *
  exact fun x hx => h x (List.mem_of_mem_take hx)
theorem endSum_step {ps : List Pq} (hg : ∀ p ∈ ps, GP p) (hc : anyEnd ps = false ∨ anyNeg ps = false) (hl : ps.length ≤ 16) {i : Nat} {p : Pq} (h : ps[i]? = some p) :
    Sm 1900 (endSum (ps.take i)).1 ∧ Sm 1900 (endSum (ps.take i)).2 ∧ ((0 < (endSum (ps.take i)).2 ∧ 0 < p.2 ∧ endSum (ps.take (i + 1)) = addP (endSum (ps.take i)) p) ∨
      (((endSum (ps.take i)).2 = 0 ∨ p.2 = 0) ∧ 0 ≤ (endSum (ps.take i)).1 ∧ 0 ≤ p.1 ∧ endSum (ps.take (i + 1)) = if (endSum (ps.take i)).2 = 0 then endSum (ps.take i) else p)) := by
  have hm := List.mem_of_getElem? h
  have gp := hg p hm
  have il := (List.getElem?_eq_some_iff.mp h).1
  have hgt : ∀ q ∈ ps.take i, GP q := fun q hq => hg q (List.mem_of_mem_take hq)
  have p0 : anyNeg ps = false → 0 ≤ p.1 := fun hn => by
    have : ¬ p.1 < 0 := fun z => by
      have : anyNeg ps = true := List.any_eq_true.mpr ⟨_, hm, decide_eq_true z⟩
      rw [hn] at this
      cases this
    omega
  by_cases he : anyEnd (ps.take i) = true
  · have hn : anyNeg ps = false := hc.resolve_left fun z => by rw [anyEnd_of_take z i] at he; cases he
    have e1 : endSum (ps.take i) = (1, 0) := if_pos he
    rw [e1]
    refine ⟨by decide, by decide, .inr ⟨.inl rfl, by decide, p0 hn, ?_⟩⟩
    unfold endSum
    rw [anyEnd_take h, he, Bool.true_or, if_pos rfl, if_pos rfl]
  · have he : anyEnd (ps.take i) = false := by simpa using he
    have e1 : endSum (ps.take i) = (ps.take i).foldl addP (0, 1) := if_neg (by rw [he]; decide)
    have sa := sum_at hgt he i (by rw [List.length_take]; omega)
    rw [List.take_take, Nat.min_self] at sa
    rw [e1]
    refine ⟨sm_mono sa.st (by omega), sm_mono sa.sb (by omega), ?_⟩
    by_cases z : p.2 = 0
    · have ha : anyEnd ps = true := List.any_eq_true.mpr ⟨_, hm, decide_eq_true z⟩
      have hn : anyNeg ps = false := hc.resolve_left fun y => by rw [y] at ha; cases ha
      refine .inr ⟨.inr z, foldl_nonneg hgt he (anyNeg_of_take hn i), p0 hn, ?_⟩
      rw [if_neg (by have := sa.pos; omega), gp_end gp z]
      unfold endSum
      rw [anyEnd_take h, z, decide_eq_true rfl, Bool.or_true, if_pos rfl]
    · refine .inl ⟨sa.pos, gp_pos gp z, ?_⟩
      unfold endSum
      rw [anyEnd_take h, he, decide_eq_false z, Bool.or_false, if_neg (by decide), foldl_take addP _ h]
theorem totP_none {ps : List Pq} (h1 : anyEnd ps = true) (h2 : anyNeg ps = true) : totP ps = none := by unfold totP; rw [if_pos h1, if_pos h2]
theorem totP_some {ps : List Pq} (hc : anyEnd ps = false ∨ anyNeg ps = false) : totP ps = some (endSum ps) := by
  unfold totP endSum
  rcases hc with h | h
  · rw [h, if_neg (by decide), if_neg (by decide)]
    rfl
  · cases he : anyEnd ps with
    | true => rw [if_pos rfl, if_neg (by rw [h]; decide), if_pos rfl]
    | false => rw [if_neg (by decide), if_neg (by decide)]; rfl
theorem least_fold {p : Pq} (r : List Pq) (g : GP p) : (p :: r).foldl lB (1, 0) = leastP (p :: r) := by
  show (p :: r).foldl lB (1, 0) = (p :: r).foldl lB p
  rw [List.foldl_cons, List.foldl_cons]
  congr 1
  have h1 : lB p p = p := by unfold lB; rw [if_neg (by omega)]
  rw [h1]
  unfold lB
  by_cases z : p.2 = 0
  · rw [gp_end g z]
    rfl
  · have := gp_pos g z
    rw [if_pos (by show p.1 * 0 < 1 * p.2; omega)]
theorem gB_mem {f p : Pq} {ps : List Pq} (h : f ∈ ps) (k : p ∈ ps) : gB f p ∈ ps := by
  unfold gB
  split
  · exact k
  · exact h
theorem lB_mem {f p : Pq} {ps : List Pq} (h : f ∈ ps) (k : p ∈ ps) : lB f p ∈ ps := by
  unfold lB
  split
  · exact k
  · exact h
theorem gp_end0 : GP (1, 0) := ⟨.inr ⟨rfl, rfl⟩, by decide, by decide⟩
theorem gp_zero : GP (0, 1) := ⟨.inl (low_one 0), by decide, by decide⟩
theorem fold_gp {f : Pq → Pq → Pq} (hf : ∀ a b, f a b = a ∨ f a b = b) {a : Pq} (ha : GP a) : ∀ {ps : List Pq}, (∀ p ∈ ps, GP p) → GP (ps.foldl f a)
  | [], _ => ha
  | p :: r, h => by
    rw [List.foldl_cons]
    refine fold_gp hf ?_ fun q hq => h q (List.mem_cons_of_mem _ hq)
    rcases hf a p with e | e <;> rw [e]
    · exact ha
    · exact h p List.mem_cons_self
theorem gB_or (a b : Pq) : gB a b = a ∨ gB a b = b := by unfold gB; split <;> simp
theorem lB_or (a b : Pq) : lB a b = a ∨ lB a b = b := by unfold lB; split <;> simp
theorem less_iff {f p : Pq} (gf : GP f) (gp : GP p) : (f.1 * p.2 < p.1 * f.2) ↔ if f.2 = 0 ∨ p.2 = 0 then (f.2 ≠ 0 ∧ p.2 = 0) else f.1 * p.2 < p.1 * f.2 := by
  by_cases hf : f.2 = 0
  · rw [if_pos (.inl hf), gp_end gf hf]
    have := gp_nonneg gp
    show 1 * p.2 < p.1 * 0 ↔ (((0 : Int) ≠ 0) ∧ p.2 = 0)
    omega
  · by_cases hp : p.2 = 0
    · rw [if_pos (.inr hp), gp_end gp hp]
      have := gp_pos gf hf
      show f.1 * 0 < 1 * f.2 ↔ (f.2 ≠ 0 ∧ (0 : Int) = 0)
      omega
    · rw [if_neg (fun z => z.elim hf hp)]
/-! ### items: values with their pairs -/
abbrev IT := List (V × Pq)
def vsO (its : IT) : List V := its.map (·.1)
def prs (its : IT) : List Pq := its.map (·.2)
def IOk (C : Addr) (H : Hp) (its : IT) : Prop := ∀ p ∈ its, NumV C H p.1 p.2.1 p.2.2 ∧ GP p.2
def AllRef (its : IT) : Prop := ∀ p ∈ its, ∃ a, p.1 = .ref a
theorem IOk.same {C : Addr} {H H' : Hp} {its : IT} (h : IOk C H its) (s : Same H H') : IOk C H' its := fun p hp => ⟨(h p hp).1.same s, (h p hp).2⟩
theorem IOk.ext {C : Addr} {H H' : Hp} {its : IT} (h : IOk C H its) (s : ExtN H H') : IOk C H' its := fun p hp => ⟨(h p hp).1.ext s, (h p hp).2⟩
theorem IOk.gp {C : Addr} {H : Hp} {its : IT} (h : IOk C H its) : ∀ p ∈ prs its, GP p := fun p hp => by
  obtain ⟨q, hq, rfl⟩ := List.mem_map.mp hp
  exact (h q hq).2
theorem vsO_len (its : IT) : (vsO its).length = its.length := by unfold vsO; simp
theorem prs_len (its : IT) : (prs its).length = its.length := by unfold prs; simp
theorem vsO_at {its : IT} {i : Nat} {x : V} (h : (vsO its)[i]? = some x) : ∃ p, p ∈ its ∧ x = p.1 ∧ its[i]? = some p ∧ (prs its)[i]? = some p.2 ∧ i < its.length := by
  unfold vsO at h
  rw [List.getElem?_map] at h
  cases e : its[i]? with
  | none => rw [e] at h; cases h
  | some p =>
    rw [e] at h
    cases h
    exact ⟨p, List.mem_of_getElem? e, rfl, rfl, by unfold prs; rw [List.getElem?_map, e]; rfl, (List.getElem?_eq_some_iff.mp e).1⟩
theorem numV_mut {C : Addr} {H : Hp} {v : V} {t b : Int} {D : Addr} {xs : List V} {o : HO} (h : NumV C H v t b) (e : H D = some (.lst xs)) : NumV C (upd H D o) v t b := by
  rcases h with ⟨a, ea, d, r⟩ | h
  · exact .inl ⟨a, ea, d, hp_mut r (ne_of r e (by simp))⟩
  · exact .inr h
theorem IOk.mut {C : Addr} {H : Hp} {its : IT} {D : Addr} {xs : List V} {o : HO} (h : IOk C H its) (e : H D = some (.lst xs)) : IOk C (upd H D o) its := fun p hp => ⟨numV_mut (h p hp).1 e, (h p hp).2⟩
theorem IOk.app {C : Addr} {H : Hp} {its : IT} {v : V} {p : Pq} (h : IOk C H its) (n : NumV C H v p.1 p.2) (g : GP p) : IOk C H (its ++ [(v, p)]) := fun q hq => by
  rcases List.mem_append.mp hq with hq | hq
  · exact h q hq
  · rw [List.mem_singleton.mp hq]; exact ⟨n, g⟩
theorem IOk.take {C : Addr} {H : Hp} {its : IT} (h : IOk C H its) (i : Nat) : IOk C H (its.take i) := fun p hp => h p (List.mem_of_mem_take hp)
def SeqV (H : Hp) (l : Addr) (xs : List V) : Prop := H l = some (.lst xs) ∨ H l = some (.tup xs)
theorem SeqV.ext {H H' : Hp} {l : Addr} {xs : List V} (h : SeqV H l xs) (s : ExtN H H') : SeqV H' l xs := h.imp (fun h => s _ _ h fun _ z => by cases z) (fun h => s _ _ h fun _ z => by cases z)
theorem SeqV.same {H H' : Hp} {l : Addr} {xs : List V} (h : SeqV H l xs) (s : Same H H') : SeqV H' l xs := h.imp (s _ _) (s _ _)
def NotNum (K : PySem.W.Frag) (C : Addr) (H : Hp) (v : V) : Prop := IsI K H v false ∧ NoR K C H v
theorem NotNum.keepV {K : PySem.W.Frag} {C : Addr} {H H' : Hp} {v : V} (k : KeepV H H' v) (h : NotNum K C H v) : NotNum K C H' v := ⟨h.1.keepV k, h.2.keepV k⟩
def Asked (K : PySem.W.Frag) (C : Addr) (H : Hp) (xs : List V) (o : Sum IT Nat) : Prop := match o with
  | .inl its => xs = vsO its ∧ IOk C H its ∧ its.length ≤ 16
  | .inr k => ∃ its x rest, xs = vsO its ++ x :: rest ∧ IOk C H its ∧ its.length = k ∧ k ≤ 16 ∧ NotNum K C H x
theorem Asked.ext {K : PySem.W.Frag} {C : Addr} {H H' : Hp} {xs : List V} {o : Sum IT Nat} (h : Asked K C H xs o) (s : ExtN H H') : Asked K C H' xs o := by
  match o, h with
  | .inl its, ⟨e, i, l⟩ => exact ⟨e, i.ext s, l⟩
  | .inr k, ⟨its, x, rest, e, i, l, l2, n⟩ => exact ⟨its, x, rest, e, i.ext s, l, l2, n.keepV (.ext s)⟩
/-! ### promises -/
def spCmp5 (C : Addr) (R : Int → Int → Bool) : Sp := fun vs H Q _ => ∃ x y t b u d, vs = [.ref x, y] ∧ RatAt C H x t b ∧ NumV C H y u d ∧ Sm 1900 t ∧ Sm 1900 b ∧ Sm 1900 u ∧ Sm 1900 d ∧ ∀ H', Same H H' → Q (.bl (R (t * d) (u * b))) H'
def spAdd5 (C : Addr) : Sp := fun vs H Q _ => ∃ x y t b u d, vs = [.ref x, .ref y] ∧ RatAt C H x t b ∧ RatAt C H y u d ∧ Sm 1900 t ∧ Sm 1900 b ∧ Sm 100 u ∧ Sm 100 d ∧
  ((0 < b ∧ 0 < d ∧ NewR C H Q (lo (t * d + u * b) (b * d)) (lb (t * d + u * b) (b * d))) ∨
   ((b = 0 ∨ d = 0) ∧ 0 ≤ t ∧ 0 ≤ u ∧ ∀ a H', Same H H' → RatAt C H' a (if b = 0 then t else u) (if b = 0 then b else d) → Q (.ref a) H'))
def spRatiosOf5 (K : PySem.W.Frag) (C B : Addr) : Sp := fun vs H Q E => ∃ l xs o, vs = [.ref l] ∧ SeqV H l xs ∧ Asked K C H xs o ∧ (match o with
  | .inl its => ∀ p its' H', Same H H' → H' p = some (.lst (vsO its')) → IOk C H' its' → AllRef its' → prs its' = prs its → Q (.ref p) H'
  | .inr k => BadAt B k H E)
def GotR (C : Addr) (H : Hp) (Q : VK) (p : Pq) : Prop := ∀ a H', Same H H' → RatAt C H' a p.1 p.2 → Q (.ref a) H'
def spTotal5 (K : PySem.W.Frag) (C B N : Addr) : Sp := fun vs H Q E => ∃ l xs o, vs = [.ref l] ∧ SeqV H l xs ∧ Asked K C H xs o ∧ (match o with
  | .inl its => (match totP (prs its) with
    | none => ∀ H', Same H H' → E (.ref N) none H'
    | some p => GotR C H Q p)
  | .inr k => BadAt B k H E)
def spFar5 (K : PySem.W.Frag) (C B : Addr) (f : List Pq → Pq) : Sp := fun vs H Q E => ∃ l xs o, vs = [.ref l] ∧ SeqV H l xs ∧ Asked K C H xs o ∧ (match o with
  | .inl its => GotR C H Q (f (prs its))
  | .inr k => BadAt B k H E)
theorem lt_size16 {n : Nat} (h : n ≤ 100) : n < sizeLine := by rw [sizeLine_eq]; omega
end RR
set_option maxHeartbeats 4000000
namespace RR
open PySem PySem.Spec PyProof.Rows L2 LamX
/-! ### what comes of a call: a ratio, no ratio, a wrong item -/
inductive Oc where
  | val (t b : Int)
  | none
  | at (k : Nat)
inductive EachO {α : Type} (R : V → α → Prop) : List V → List α → Prop
  | nil : EachO R [] []
  | cons {x : V} {o : α} {xs : List V} {os : List α} : R x o → EachO R xs os → EachO R (x :: xs) (o :: os)
section
variable {α : Type}
theorem EachO.imp {R S : V → α → Prop} (h : ∀ x o, R x o → S x o) : ∀ {xs : List V} {os : List α}, EachO R xs os → EachO S xs os
  | _, _, .nil => .nil
  | _, _, .cons r e => .cons (h _ _ r) (e.imp h)
theorem EachO.app {R : V → α → Prop} {ys : List V} {ps : List α} (h : EachO R ys ps) : ∀ {xs : List V} {os : List α}, EachO R xs os → EachO R (xs ++ ys) (os ++ ps)
  | _, _, .nil => h
  | _, _, .cons r e => .cons r (EachO.app h e)
theorem EachO.one {R : V → α → Prop} {x : V} {o : α} (h : R x o) : EachO R [x] [o] := .cons h .nil
theorem EachO.len {R : V → α → Prop} : ∀ {xs : List V} {os : List α}, EachO R xs os → xs.length = os.length
  | _, _, .nil => rfl
  | _, _, .cons _ e => congrArg Nat.succ e.len
theorem EachO.get {R : V → α → Prop} : ∀ {xs : List V} {os : List α}, EachO R xs os → ∀ (i : Nat) (x : V), xs[i]? = some x → ∃ o, os[i]? = some o ∧ R x o
  | _, _, .nil, i, x, h => by cases h
  | _, _, .cons (o := o) r e, 0, x, h => by
    cases h
    exact ⟨o, rfl, r⟩
  | _, _, .cons r e, i + 1, x, h => e.get i x h
end
def HIs (C : Addr) (H : Hp) (x : V) (o : Oc) : Prop := match o with
  | .val t b => ∃ z a, x = .ref z ∧ H z = some (.lst [.ref a]) ∧ RatAt C H a t b
  | .none => ∃ z, x = .ref z ∧ H z = some (.tup [.str "none"])
  | .at k => ∃ z, x = .ref z ∧ H z = some (.tup [.str "ratio", .int (k : Int)])
def TIs (H : Hp) (x : V) (o : Oc) : Prop := match o with
  | .val t b => ∃ z, x = .ref z ∧ H z = some (.tup [.int t, .int b])
  | .none => ∃ z, x = .ref z ∧ H z = some (.tup [.str "none"])
  | .at k => ∃ z, x = .ref z ∧ H z = some (.tup [.str "ratio", .int (k : Int)])
def ocD (o : Oc) : PyData := match o with
  | .val t b => .tuple [.int t, .int b]
  | .none => .tuple [.str "none"]
  | .at k => .tuple [.str "ratio", .int (k : Int)]
theorem TIs.dp {K : PySem.W.Frag} {H : Hp} {x : V} {o : Oc} (h : TIs H x o) : Dp K H x (ocD o) := by
  match o, h with
  | .none, ⟨z, e, h1⟩ => subst e; exact .tup (SqT.of h1) (.cons (.str _) .nil)
  | .val t b, ⟨z, e, h1⟩ => subst e; exact .tup (SqT.of h1) (.cons (.int _) (.cons (.int _) .nil))
  | .at k, ⟨z, e, h1⟩ => subst e; exact .tup (SqT.of h1) (.cons (.str _) (.cons (.int _) .nil))
theorem EachO.dp {K : PySem.W.Frag} {H : Hp} : ∀ {xs : List V} {os : List Oc}, EachO (TIs H) xs os → DpAll K H xs (os.map ocD)
  | _, _, .nil => .nil
  | _, _, .cons r e => .cons r.dp e.dp
theorem lay_oc : ∀ os : List Oc, PyData.canLayAll0 (os.map ocD) = true
  | [] => rfl
  | o :: r => by
    show (PyData.canLay0 (ocD o) && PyData.canLayAll0 (r.map ocD)) = true
    rw [lay_oc r]
    have h1 : PyData.canLay0 (.str "none") = true := by decide +kernel
    have h2 : PyData.canLay0 (.str "ratio") = true := by decide +kernel
    rcases o with ⟨t, b⟩ | _ | k
    · rfl
    · show (PyData.canLayAll0 [.str "none"] && true) = true
      show ((PyData.canLay0 (.str "none") && true) && true) = true
      rw [h1]; rfl
    · show ((PyData.canLay0 (.str "ratio") && (PyData.canLay0 (.int (k : Int)) && true)) && true) = true
      rw [h2]; rfl
theorem dep_oc : ∀ os : List Oc, PyData.depthAll (os.map ocD) ≤ 1
  | [] => by decide
  | o :: r => by
    show max (PyData.depth (ocD o)) (PyData.depthAll (r.map ocD)) ≤ 1
    have h1 := dep_oc r
    have h2 : PyData.depth (ocD o) = 1 := by rcases o with ⟨t, b⟩ | _ | k <;> rfl
    omega
theorem shaped_oc (os : List Oc) : SeqAt.shaped (.list (os.map ocD)) = true := by
  unfold SeqAt.shaped
  rw [Bool.and_eq_true]
  refine ⟨lay_oc os, ?_⟩
  show decide (PyData.depthAll (os.map ocD) + 1 ≤ 64) = true
  have := dep_oc os
  exact decide_eq_true (by omega)
theorem eqv_oc1 (o : Oc) : PyData.eqv (ocD o) (ocD o) = true := by
  rcases o with ⟨t, b⟩ | _ | k
  · show PyData.eqv (.tuple [.int t, .int b]) (.tuple [.int t, .int b]) = true
    simp [PyData.eqv, PyData.eqvAll]
  · decide +kernel
  · show PyData.eqv (.tuple [.str "ratio", .int (k : Int)]) (.tuple [.str "ratio", .int (k : Int)]) = true
    simp [PyData.eqv, PyData.eqvAll]
theorem eqv_ocA : ∀ os : List Oc, PyData.eqvAll (os.map ocD) (os.map ocD) = true
  | [] => by simp [PyData.eqvAll]
  | o :: r => by
    rw [List.map_cons]
    show PyData.eqvAll (ocD o :: r.map ocD) (ocD o :: r.map ocD) = true
    rw [PyData.eqvAll, eqv_oc1, eqv_ocA r]
    rfl
theorem eqv_oc (os : List Oc) : PyData.eqv (.list (os.map ocD)) (.list (os.map ocD)) = true := by
  rw [PyData.eqv, eqv_ocA]
theorem eqv_ocN (os : List Oc) : PyData.eqv (.list (os.map ocD)) (.list []) = decide (os = []) := by
  cases os with
  | nil => simp [PyData.eqv, PyData.eqvAll]
  | cons o r => rw [List.map_cons]; simp [PyData.eqv, PyData.eqvAll]
theorem HIs.keep {C : Addr} {H H' : Hp} {x : V} {o : Oc} (h : HIs C H x o) (k : ∀ z u, H z = some u → (∀ ps, u ≠ .tbl ps) → H' z = some u) : HIs C H' x o := by
  match o, h with
  | .none, ⟨z, e, h⟩ => exact ⟨z, e, k _ _ h fun _ y => by cases y⟩
  | .at _, ⟨z, e, h⟩ => exact ⟨z, e, k _ _ h fun _ y => by cases y⟩
  | .val t b, ⟨z, a, e, h, dx, r⟩ => exact ⟨z, a, e, k _ _ h (fun _ y => by cases y), dx, k _ _ r fun _ y => by cases y⟩
theorem TIs.keep {H H' : Hp} {x : V} {o : Oc} (h : TIs H x o) (k : ∀ z u, H z = some u → (∀ ps, u ≠ .tbl ps) → H' z = some u) : TIs H' x o := by
  match o, h with
  | .none, ⟨z, e, h⟩ => exact ⟨z, e, k _ _ h fun _ y => by cases y⟩
  | .at _, ⟨z, e, h⟩ => exact ⟨z, e, k _ _ h fun _ y => by cases y⟩
  | .val t b, ⟨z, e, h⟩ => exact ⟨z, e, k _ _ h fun _ y => by cases y⟩
theorem TIs.same {H H' : Hp} {x : V} {o : Oc} (h : TIs H x o) (s : Same H H') : TIs H' x o := h.keep fun _ _ e _ => s _ _ e
theorem TIs.ext {H H' : Hp} {x : V} {o : Oc} (h : TIs H x o) (s : ExtN H H') : TIs H' x o := h.keep s
theorem TIs.put {H : Hp} {v : V} {o : Oc} {L : Addr} {xs ys : List V} (h : TIs H v o) (hL : H L = some (.lst xs)) : TIs (upd H L (.lst ys)) v o := by
  match o, h with
  | .none, ⟨z, e, h⟩ => exact ⟨z, e, (upd_ne (ne_of h hL fun y => by cases y)).trans h⟩
  | .at _, ⟨z, e, h⟩ => exact ⟨z, e, (upd_ne (ne_of h hL fun y => by cases y)).trans h⟩
  | .val t b, ⟨z, e, h⟩ => exact ⟨z, e, (upd_ne (ne_of h hL fun y => by cases y)).trans h⟩
/-- the wishes of a lambda -/
def wishE (N B : Addr) (o : Oc) (H0 : Hp) : XK := fun cls d H' => match o with
  | .none => cls = .ref N ∧ d = Option.none ∧ Same H0 H'
  | .at k => wAt B k H0 cls d H'
  | .val _ _ => False
def wishV (C : Addr) (o : Oc) (H0 : Hp) : VK := fun v H' => match o with
  | .val t b => Same H0 H' ∧ ∃ a, v = .ref a ∧ RatAt C H' a t b
  | _ => False
theorem heardOc {C N B D : Addr} {tl : (XK → Hp → VK → Prop)} {H : Hp} {Q : VK} {o : Oc} (h : ∀ H0, Same H H0 → tl (wishE N B o H0) H0 (wishV C o H0))
    (k : ∀ q H2, Same H H2 → HIs C H2 (.ref q) o → Q (.ref q) H2) : TTg N B D tl H Q := fun H0 s0 => by
  refine ⟨_, _, h H0 s0, ?_, ?_⟩
  · intro v H1 z q H2 s2 e2
    cases o with
    | val t b =>
      obtain ⟨s1, a, rfl, r⟩ := z
      exact k q H2 (s0.trans (s1.trans s2)) ⟨q, a, rfl, e2, r.same s2⟩
    | none => exact z.elim
    | «at» k => exact z.elim
  · intro cls d H1 z
    cases o with
    | val t b => exact z.elim
    | none =>
      obtain ⟨e1, e2, s1⟩ := z
      exact .inl ⟨e1, e2, fun q H2 s2 e => k q H2 (s0.trans (s1.trans s2)) ⟨q, rfl, e⟩⟩
    | «at» k1 =>
      obtain ⟨rfl, dd, rfl, s1, e⟩ := z
      exact .inr ⟨dd, k1, rfl, e, .inl ⟨rfl, fun q H2 s e2 => k q H2 (s0.trans (s1.trans s)) ⟨q, rfl, e2⟩⟩⟩
/-! ### the three calls -/
def ocP : Deed → Oc
  | some p => .val p.1 p.2
  | none => .none
def ocT : Sum IT Nat → Oc
  | .inl its => ocP (totP (prs its))
  | .inr k => .at k
def ocF (f : List Pq → Pq) : Sum IT Nat → Oc
  | .inl its => .val (f (prs its)).1 (f (prs its)).2
  | .inr k => .at k
def ocs (o : Sum IT Nat) : List Oc := [ocT o, ocF greatP o, ocF leastP o, ocT o, ocF greatP o, ocF leastP o]
theorem ask_total {K : PySem.W.Frag} {C B N : Addr} {H : Hp} {l : Addr} {xs : List V} {o : Sum IT Nat} (hs : SeqV H l xs) (ha : Asked K C H xs o) : spTotal5 K C B N [.ref l] H (wishV C (ocT o) H) (wishE N B (ocT o) H) := by
  refine ⟨l, xs, o, rfl, hs, ha, ?_⟩
  cases o with
  | inr k => exact wAt_bad
  | inl its =>
    show (match totP (prs its) with | none => ∀ H', Same H H' → wishE N B (ocP (totP (prs its))) H (.ref N) none H' | some p => GotR C H (wishV C (ocP (totP (prs its))) H) p)
    generalize totP (prs its) = d
    cases d with
    | none => exact fun H' s => ⟨rfl, rfl, s⟩
    | some p => exact fun a H' s r => ⟨s, a, rfl, r⟩
theorem ask_far {K : PySem.W.Frag} {C B N : Addr} {H : Hp} {l : Addr} {xs : List V} {o : Sum IT Nat} {f : List Pq → Pq} (hs : SeqV H l xs) (ha : Asked K C H xs o) : spFar5 K C B f [.ref l] H (wishV C (ocF f o) H) (wishE N B (ocF f o) H) := by
  refine ⟨l, xs, o, rfl, hs, ha, ?_⟩
  cases o with
  | inr k => exact wAt_bad
  | inl its => exact fun a H' s r => ⟨s, a, rfl, r⟩
/-- under way: the list L of what was heard so far -/
structure GSt (C : Addr) (T : List (Addr × Str)) (H0 H : Hp) (L : Addr) (os : List Oc) : Prop where
  ex : ExtN H0 H
  l0 : ∀ u, H0 L = some u → ∃ ps, u = .tbl ps
  ls : ∃ xs, H L = some (.lst xs) ∧ EachO (HIs C H) xs os
  tb : Tabs T H
theorem hear_noL {C : Addr} {H : Hp} {L : Addr} {xs : List V} {os : List Oc} (h : EachO (HIs C H) xs os) (hL : H L = some (.lst xs)) {v : V} {o : Oc} (r : HIs C H v o) : v ≠ .ref L := by
  intro e
  match o, r with
  | .none, ⟨z, e1, h1⟩ =>
    cases e1.symm.trans e
    rw [hL] at h1
    cases h1
  | .at _, ⟨z, e1, h1⟩ =>
    cases e1.symm.trans e
    rw [hL] at h1
    cases h1
  | .val t b, ⟨z, a, e1, h1, dx, r⟩ =>
    cases e1.symm.trans e
    rw [hL] at h1
    cases h1
    cases h with
    | cons r2 _ =>
      rename_i o2 _ _
      match o2, r2 with
      | .none, ⟨z, e2, h2⟩ =>
        cases e2
        rw [r] at h2
        cases h2
      | .at _, ⟨z, e2, h2⟩ =>
        cases e2
        rw [r] at h2
        cases h2
      | .val t b, ⟨z, a, e2, h2, _⟩ =>
        cases e2
        rw [r] at h2
        cases h2
theorem GSt.step {C : Addr} {T : List (Addr × Str)} {H0 H H2 : Hp} {L q1 : Addr} {os : List Oc} {o : Oc} (S : GSt C T H0 H L os) (e : ExtN H H2) (t2 : Tabs T H2) (z : HIs C H2 (.ref q1) o) :
    ∃ xs, H2 L = some (.lst xs) ∧ xs.length = os.length ∧ GSt C T H0 (upd H2 L (.lst (xs ++ [.ref q1]))) L (os ++ [o]) := by
  obtain ⟨xs, h1, h2⟩ := S.ls
  have hL : H2 L = some (.lst xs) := e _ _ h1 fun _ y => by cases y
  have kept : ∀ {c : Addr} {o : HO}, H2 c = some o → c ≠ L → upd H2 L (.lst (xs ++ [.ref q1])) c = some o := fun ec no => (upd_ne no).trans ec
  have hear : ∀ {v : V} {o : Oc}, HIs C H2 v o → v ≠ .ref L → HIs C (upd H2 L (.lst (xs ++ [.ref q1]))) v o := by
    intro v o h n
    match o, h with
    | .none, ⟨z, e1, h⟩ => exact ⟨z, e1, kept h fun y => n (by rw [e1, y])⟩
    | .at _, ⟨z, e1, h⟩ => exact ⟨z, e1, kept h fun y => n (by rw [e1, y])⟩
    | .val t b, ⟨z, a, e1, h, dx, r⟩ => exact ⟨z, a, e1, kept h (fun y => n (by rw [e1, y])), dx, kept r (ne_of r hL fun y => by cases y)⟩
  have hx2 : EachO (HIs C H2) xs os := h2.imp fun v o r => r.keep e
  refine ⟨xs, hL, h2.len, ?_, S.l0, ⟨_, upd_same, ?_⟩, tabs_mut t2 hL⟩
  · intro c u ec no
    rw [upd_ne fun y => by
      subst y
      obtain ⟨ps, y⟩ := S.l0 _ ec
      exact no _ y]
    exact e _ _ (S.ex _ _ ec no) no
  · exact EachO.app (.one (hear z (hear_noL hx2 hL z))) (hx2.imp fun v o r => hear r (hear_noL hx2 hL r))
theorem GSt.start {C : Addr} {T : List (Addr × Str)} {H0 H : Hp} {L q1 : Addr} {o : Oc} (e : ExtN H0 H) (tb : Tabs T H) (nL : H L = none) (z : HIs C H (.ref q1) o) :
    GSt C T H0 (upd H L (.lst [.ref q1])) L [o] := by
  refine ⟨extN_same e (Same.new nL), fun u h => ?_, ⟨_, upd_same, .one (z.keep fun c u h _ => hp_new h nL)⟩, Tabs.same tb (Same.new nL)⟩
  cases u with
  | tbl ps => exact ⟨ps, rfl⟩
  | _ =>
    have := e _ _ h fun _ y => by cases y
    rw [nL] at this
    cases this
theorem oc_app {H : Hp} {D : Addr} {ys : List V} {y : V} {os : List Oc} {i : Nat} {o : Oc} (e : H D = some (.lst ys)) (h : EachO (TIs H) ys (os.take i)) (ho : os[i]? = some o) (r : TIs H y o) :
    EachO (TIs (upd H D (.lst (ys ++ [y])))) (ys ++ [y]) (os.take (i + 1)) := by
  rw [List.take_add_one, ho]
  exact EachO.app (.one (r.put e)) (h.imp fun v o r => r.put e)
/-! ### pairs of the law -/
def PrV (H : Hp) (v : V) (p : Pq) : Prop := ∃ a, v = .ref a ∧ Pr H a p.1 p.2
theorem PrV.same {H H' : Hp} {v : V} {p : Pq} (h : PrV H v p) (s : Same H H') : PrV H' v p := h.elim fun a h => ⟨a, h.1, s _ _ h.2⟩
theorem PrV.ext {H H' : Hp} {v : V} {p : Pq} (h : PrV H v p) (s : ExtN H H') : PrV H' v p := h.elim fun a h => ⟨a, h.1, h.2.ext s⟩
theorem PrV.put {H : Hp} {v : V} {p : Pq} {L : Addr} {xs ys : List V} (h : PrV H v p) (hL : H L = some (.lst xs)) : PrV (upd H L (.lst ys)) v p := h.elim fun a h => ⟨a, h.1, (upd_ne (ne_of h.2 hL fun y => by cases y)).trans h.2⟩
theorem PrV.tis {H : Hp} {v : V} {p : Pq} (h : PrV H v p) : TIs H v (.val p.1 p.2) := h
def ocV (p : Pq) : Oc := .val p.1 p.2
theorem eachP {H : Hp} : ∀ {ys : List V} {ps : List Pq}, EachO (PrV H) ys ps → EachO (TIs H) ys (ps.map ocV)
  | _, _, .nil => .nil
  | _, _, .cons r e => .cons r (eachP e)
theorem prv_app {H : Hp} {D : Addr} {ys : List V} {y : V} {ps : List Pq} {p : Pq} (e : H D = some (.lst ys)) (h : EachO (PrV H) ys ps) (r : PrV H y p) :
    EachO (PrV (upd H D (.lst (ys ++ [y])))) (ys ++ [y]) (ps ++ [p]) := EachO.app (.one (r.put e)) (h.imp fun v o r => r.put e)
/-! ### promises of the law -/
def spAsk (K : PySem.W.Frag) (C : Addr) (T : List (Addr × Str)) : Sp := fun vs H Q _ => ∃ l xs o, vs = [.ref l] ∧ SeqV H l xs ∧ Asked K C H xs o ∧ Tabs T H ∧
  ∀ q H', ExtN H H' → Tabs T H' → (∃ ys, H' q = some (.lst ys) ∧ EachO (TIs H') ys (ocs o)) → Q (.ref q) H'
def PL (H : Hp) (l : Addr) (ps : List Pq) : Prop := ∃ ys, H l = some (.lst ys) ∧ EachO (PrV H) ys ps
theorem PL.same {H H' : Hp} {l : Addr} {ps : List Pq} (h : PL H l ps) (s : Same H H') : PL H' l ps := h.elim fun ys h => ⟨ys, s _ _ h.1, h.2.imp fun _ _ r => r.same s⟩
theorem PL.ext {H H' : Hp} {l : Addr} {ps : List Pq} (h : PL H l ps) (s : ExtN H H') : PL H' l ps := h.elim fun ys h => ⟨ys, s _ _ h.1 (fun _ y => by cases y), h.2.imp fun _ _ r => r.ext s⟩
def AllG (ps : List Pq) : Prop := ∀ p ∈ ps, GP p
def spLTotal : Sp := fun vs H Q _ => ∃ l ps, vs = [.ref l] ∧ PL H l ps ∧ AllG ps ∧ ps.length ≤ 16 ∧ ∀ q H', Same H H' → TIs H' (.ref q) (ocP (totP ps)) → Q (.ref q) H'
def spLess : Sp := fun vs H Q _ => ∃ x y p q, vs = [x, y] ∧ PrV H x p ∧ PrV H y q ∧ GP p ∧ GP q ∧ Q (.bl (decide (p.1 * q.2 < q.1 * p.2))) H
def farP (g : Bool) : List Pq → Pq := if g = true then greatP else leastP
def spLFar : Sp := fun vs H Q _ => ∃ l ps g, vs = [.ref l, .bl g] ∧ PL H l ps ∧ AllG ps ∧ ps.length ≤ 16 ∧ ∀ v H', Same H H' → PrV H' v (farP g ps) → Q v H'
def spItem (C : Addr) : Sp := fun vs H Q _ => ∃ p c ns a g, vs = [.ref p] ∧ PenAt H p c ns a g ∧ a ≤ 98000 ∧
  ∀ q x v pr a' g' H', H' p = some (pen c a' g') → Keep p H H' → H' q = some (.tup [x, v]) → PrV H' x pr → NumV C H' v pr.1 pr.2 → GP pr → v ≠ .ref p → a ≤ a' → a' ≤ a + 8 → Q (.ref q) H'
def spRight5 (K : PySem.W.Frag) (C : Addr) (T : List (Addr × Str)) : Sp := fun vs H Q _ => ∃ l m its, vs = [.ref l, .ref m] ∧ PL H l (prs its) ∧ H m = some (.lst (vsO its)) ∧ IOk C H its ∧ its.length ≤ 16 ∧ Tabs T H ∧
  ∀ H', ExtN H H' → Tabs T H' → Q (.bl true) H'
def spBent (K : PySem.W.Frag) (C : Addr) (T : List (Addr × Str)) : Sp := fun vs H Q _ => ∃ p c ns a g m its, vs = [.ref p, .ref m] ∧ PenAt H p c ns a g ∧ a ≤ 98000 ∧ H m = some (.lst (vsO its)) ∧ IOk C H its ∧ its.length ≤ 16 ∧ Tabs T H ∧
  ∀ a' g' H', PenAt H' p c ns a' g' → a' ≤ a + 8 → Tabs T H' → Q (.bl true) H'
end RR
set_option maxHeartbeats 4000000
namespace RR
open PySem PySem.Spec PyProof.Rows L2
/-! ### errors of own classes as values -/
/-- a new error of C with the field f -/
def tMkV (f : Str) (C : Addr) (ta : TA) : TE := fun σ H Q => ta σ H fun vs H1 => ∃ v, vs = [v] ∧ ∀ a dd, H1 dd = none → H1 a = none → dd ≠ a → Q (.ref a) (upd (upd H1 dd (.xd [(f, v)])) a (HeldX (.ref C) (some dd) a))
theorem made_val {X : Cx} {pins : List (Addr × Obj)} {σ : L2.St} {H1 : Hp} {hp h' : Heap} {g : Array GenState} {dr : Drawn} {tk tk' : Nat} {os : OsState} {Q : VK} {e d C : Addr} {fs : List (Str × V)} {m : Str → Option Value} (I1 : Inv X pins σ H1 ⟨hp, g, dr, tk, os⟩)
    (keep : ∀ b o, hp.get? b = some o → h'.get? b = some o) (new : hp.objs.size ≤ e) (obj : ∃ oe vs, h'.get? e = some oe ∧ oe.cls = .ref C ∧ oe.dict = some d ∧ oe.data = .fields vs ∧ vs[1]? = some .none) (dbig : hp.objs.size ≤ d) (dne : d ≠ e) (ns : h'.Ns1 d m)
    (rel : ∀ f, RelO (List.lookup f fs) (m f)) (q : H1 d = none → H1 e = none → d ≠ e → Q (.ref e) (upd (upd H1 d (.xd fs)) e (HeldX (.ref C) (some d) e))) : EP X pins σ Q (.ref e) ⟨h', g, dr, tk', os⟩ := by
  obtain ⟨oe, fv, hoe, hc, hd, hdat, h1⟩ := obj
  obtain ⟨G', g1, g2⟩ := restrict h' fun b => decide (b ≠ e)
  have gk : ∀ b, b ≠ e → G'.get? b = h'.get? b := fun b hb => g1 b (decide_eq_true hb)
  have ge : G'.get? e = none := g2 e (by simp)
  have old : ∀ b o, hp.get? b = some o → G'.get? b = some o := fun b o q => (gk b (Nat.ne_of_lt (Nat.lt_of_lt_of_le (Heap.lt_size q) new))).trans (keep b o q)
  have ob : ObjOk X.prog X.w (upd H1 d (.xd fs)) G' d (.xd fs) := ⟨_, ns.at (fun o q => (gk d dne).trans q), rel⟩
  have J : Inv X pins σ (upd H1 d (.xd fs)) ⟨G', g, dr, tk', os⟩ := I1.laid (t' := tk') old dbig ob
  have nd := I1.hok.fresh dbig
  have ne := I1.hok.fresh new
  have ne2 : upd H1 d (.xd fs) e = none := (upd_ne dne.symm).trans ne
  have up : ∀ b o, G'.get? b = some o → h'.get? b = some o := fun b o z => by
    by_cases hb : b = e
    · rw [hb, ge] at z
      cases z
    · exact (gk b hb).symm.trans z
  have J2 : Inv X pins σ (upd (upd H1 d (.xd fs)) e (HeldX (.ref C) (some d) e)) ⟨h', g, dr, tk', os⟩ :=
    J.laidN (t' := tk') up ge ne2 ⟨⟨oe, hoe, ⟨hc, hd⟩, fv, hdat⟩, ⟨oe, hoe⟩, fun _ _ ⟨u, z1, z2⟩ k => ⟨u, k u z1, z2⟩⟩
  exact ⟨.ref e, _, J2, rfl, q nd ne dne⟩
end RR
namespace PySem
namespace LowN
open PySem.W PySem.Calls PyProof.Rows PySem.HandSPX
/-! ### the text of __init__ -/
def iA (p1 p2 : Pos) : Arguments := { posonlyargs := [], args := [{ arg := "self", annotation := none, pos := p1 }, { arg := "name", annotation := none, pos := p2 }], vararg := none, kwonlyargs := [], kw_defaults := [], kwarg := none, defaults := [] }
def iB (q1 q2 q3 q4 : Pos) : List Stmt := [.Assign [.Attribute (.Name "self" q1) "name" q2] (.Name "name" q3) q4]
def iS : Scope := { kind := .function, names := [(PySem.Str.ofString "self", .local), (PySem.Str.ofString "name", .local)], isGenerator := false, isCoroutine := false, more := [] }
/-- what the written part says of Low, at C, and of its __init__, at fI -/
structure LowTxt (K : Frag) (mg : Str → Option Value) (cn qn : Str) (C fI : Addr) : Prop where
  gC : mg cn = some (.ref C)
  cls : ∃ nm q N bs bm sn sub ab col dd k0 k1 k2 k3 k5, K.lookup C = some (excClassObj nm q C N bs bm true sn sub ab col dd k0 k1 k2 k3 k5 "ValueError.__new__") ∧ refsVE bm = true
  sa : findIn K (.ref C) "__setattr__" = some (some (.builtin "object.__setattr__"))
  ga : findIn K (.ref C) "__getattribute__" = some (some (.builtin "BaseException.__getattribute__"))
  gg : findIn K (.ref C) "__getattr__" = some none
  noN : findIn K (.ref C) "name" = some none
  iC : findIn K (.ref C) "__init__" = some (some (.ref fI))
  tC : typeIn K (.ref fI) = some (.type "function")
  kC : keepIn K (.ref C) = true
  exC : subIn K (.ref C) (.type "BaseException") = some true
  tyC : typeIn K (.ref C) = some (.type "type")
  hdC : hasDictIn K C = true
  te : exmOne K (.ref C) (.ref C) = some true
  fn : ∃ (oc : Value) (od : Option Addr) (doc pm : Value) (an : Option Addr) (cdv ct : Value) (osl : Array (Option Value)) (p1 p2 q1 q2 q3 q4 : Pos),
    K.lookup fI = some ⟨oc, od, .func (fnOf "__init__" qn (iA p1 p2) (iB q1 q2 q3 q4) iS .none .none doc pm an cdv ct), osl⟩ ∧ codeIn K cdv qn = true
theorem one_size (v : Value) : [v].length ≤ sizeLine := by
  rw [sizeLine_eq]
  exact (by decide : 1 ≤ 16777216)
theorem kept_but {K : Frag} {h h' : Heap} {x : Addr} (X : K.In h) (hx : K.lookup x = none) (k : ∀ b o, b ≠ x → h.get? b = some o → h'.get? b = some o) : K.In h' := fun a o e =>
  k a o (fun z => by rw [z, hx] at e; cases e) (X a o e)
theorem ldC {M : Model} {s : Shared} {name : Str} {scope : Scope} {L a : Addr} {cd : Value} {m : Str → Option Value} {x : Str} {pos : Pos} {v : Value} {Q : Value → Shared → Prop} {A : Around} {E : Value → Shared → Prop} (hn : s.heap.Ns L m) (hv : m x = some v) (h : Q v s)
    (hk : scope.kind = .function := by rfl) (hl : (envOfC name scope L a cd).kindOf x = some .local := by rfl) (hd : (x == ("__debug__" : Str)) = false := by decide) :
    wpAny M A (eval (.Name x pos) (envOfC name scope L a cd)) Q E s := wpAny_Name (wpAny_loadName_local hk hl hn hv h) hd
/-- what __init__ leaves of a fresh exception at x -/
structure InitEnd (h h' : Heap) (x C dx t1 : Addr) (v : Value) : Prop where
  keep : ∀ b o, b ≠ x → h.get? b = some o → h'.get? b = some o
  obj : h'.get? x = some { cls := .ref C, dict := some dx, data := .fields #[.ref t1, .none, .none, .none, .bool false, .none] }
  dbig : h.objs.size ≤ dx
  dne : dx ≠ x
  ns : h'.Ns1 dx (fun y => if y = "name" then some v else none)
/-- a made Low -/
structure OwnMade (h h' : Heap) (e C d : Addr) (v : Value) : Prop where
  keep : ∀ b o, h.get? b = some o → h'.get? b = some o
  new : h.objs.size ≤ e
  obj : ∃ oe vs, h'.get? e = some oe ∧ oe.cls = .ref C ∧ oe.dict = some d ∧ oe.data = .fields vs ∧ vs[1]? = some .none
  dbig : h.objs.size ≤ d
  dne : d ≠ e
  ns : h'.Ns1 d (fun y => if y = "name" then some v else none)
section
variable {prog : Program} {w : World} {A : Around} {E : Value → Shared → Prop} {R : Result → Shared → Prop} {s : Shared} {K : Frag} {mg : Str → Option Value} {C fI : Addr} {cn qn : Str}
theorem low_init (T : LowTxt K mg cn qn C fI) {x t0 : Addr} {v : Value} (X : K.In s.heap) (hlim : s.heap.NoLimit) (hx : s.heap.get? x = some (excO C t0)) (hnx : K.lookup x = none) (hroom : A.depth < recursionLimit)
    (hq : ∀ h' tk dx, InitEnd s.heap h' x C dx t0 v → R (.ok (.ret .none)) { s with heap := h', toks := tk }) :
    codeAny (model prog w) A (.call (.ref fI) ⟨[.ref x, v], []⟩) R s := by
  obtain ⟨oc, od, doc, pm, an, cdv, ct, osl, p1, p2, q1, q2, q3, q4, ho, hcd⟩ := T.fn
  obtain ⟨nm, q, N, bs, bm, sn, sub, ab, col, dd, k0, k1, k2, k3, k5, hC, hbm⟩ := T.cls
  have hcl : clsIn K C = some { name := nm, bases := bs, mro := .ref C :: bm, ns := N, qualname := q, hasDict := true, slotNames := sn, subclasses := sub, abstract := ab, collection := col, hasDel := false } := by unfold clsIn; rw [hC] <;> rfl
  refine Att.call_fn (binds := [("self", .ref x), ("name", v)]) X hlim ho hcd hroom (BindsTo.of_eq (by first | rfl | with_unfolding_all rfl)) (by first | rfl | decide | with_unfolding_all rfl) (fun s₁ IC => ?_) rfl rfl rfl
  obtain ⟨h₁, tk₁, rfl⟩ := IC.toInCall.same
  have k : ∀ b o, s.heap.get? b = some o → h₁.get? b = some o := IC.toInCall.keep
  have hn := IC.toInCall.ns
  have hxL : s.heap.objs.size ≠ x := Nat.ne_of_gt (Heap.lt_size hx)
  have X₁ : K.In h₁ := X.keeps k
  have hx₁ := k _ _ hx
  -- self.by = by
  show wpAny _ _ (execs _ _) _ _ _
  refine wpAny_execs_cons (plainObj_wpAny_Assign_Attribute ?_)
  refine ldC (v := v) hn (by first | rfl | with_unfolding_all rfl | kernel_rfl) (ldC (v := .ref x) hn (by first | rfl | with_unfolding_all rfl | kernel_rfl) ?_)
  refine set_plain X₁ (ox := excO C t0) (od := none) ⟨hx₁, rfl, rfl, trivial⟩ T.sa ?_
  refine exc_osa X₁ hx₁ hcl (show refsVE (.ref C :: bm) = true from hbm) rfl T.noN (fun h₃ tk₃ dx k₃ dn dne hx₃ hn₃ => ?_)
  show wpAny _ _ (execs _ _) _ _ _
  have z : s.heap.objs.size < h₁.objs.size := hn.lt
  exact wpAny_execs_nil (hq h₃ tk₃ dx ⟨fun b o hb e => k₃ b o hb (k b o e), hx₃, Nat.le_of_lt (Nat.lt_of_lt_of_le z dn), dne, hn₃⟩)
theorem low_made (T : LowTxt K mg cn qn C fI) {v : Value} (X : K.In s.heap) (hlim : s.heap.NoLimit) (hroom : A.depth + 1 < recursionLimit)
    (hq : ∀ h' tk e d, OwnMade s.heap h' e C d v → R (.ok (.ret (.ref e))) { s with heap := h', toks := tk }) :
    codeAny (model prog w) A (.call (.ref C) ⟨[v], []⟩) R s := by
  obtain ⟨nm, q, N, bs, bm, sn, sub, ab, col, dd, k0, k1, k2, k3, k5, hC, hbm⟩ := T.cls
  obtain ⟨hp, g, dr, tk, os⟩ := s
  have k : ∀ b o, hp.get? b = some o → ((hp.push (kdv_tup [v])).push (excO C hp.objs.size)).get? b = some o := fun b o e => Heap.get?_push_of_some _ (Heap.get?_push_of_some _ e)
  have hget : ((hp.push (kdv_tup [v])).push (excO C hp.objs.size)).get? (hp.objs.size + 1) = some (excO C hp.objs.size) := by heap_get
  have hnx : K.lookup (hp.objs.size + 1) = none := by
    cases e : K.lookup (hp.objs.size + 1) with
    | none => rfl
    | some o =>
      have z : hp.get? (hp.objs.size + 1) = some o := X _ _ e
      exact absurd (Nat.lt_of_succ_lt (Heap.lt_size z)) (Nat.lt_irrefl _)
  refine call_own F.excBase_ValueError (fun X => refsVE_contains X bm hbm) (X _ _ hC) (looks_findIn X T.iC) (fun self => bind_fn X self T.tC) (one_size v) ?_
  refine low_init (s := ⟨(hp.push (kdv_tup [v])).push (excO C hp.objs.size), g, dr, tk, os⟩) T (X.keeps k) (hlim.keeps k) hget hnx ?_ fun h' tk' dx ⟨k', hx, dn, dne, hns⟩ => ?_
  · show A.depth + 1 < recursionLimit
    exact hroom
  · have old : ∀ b o, hp.get? b = some o → h'.get? b = some o := fun b o e => k' b o (Nat.ne_of_lt (Nat.lt_succ_of_lt (Heap.lt_size e))) (k b o e)
    have z : hp.objs.size + 1 + 1 ≤ dx := by
      first
        | (simpa only [Heap.size_push] using dn)
        | exact dn
        | (have q := dn; rw [Heap.size_push, Heap.size_push] at q; exact q)
    exact ⟨rfl, hq h' tk' (hp.objs.size + 1) dx ⟨old, Nat.le_succ _, ⟨_, _, hx, rfl, rfl, rfl, rfl⟩, Nat.le_trans (Nat.le_trans (Nat.le_succ _) (Nat.le_succ _)) z, dne, hns⟩⟩
end
end LowN
end PySem
namespace L2
open PySem PySem.Spec PyProof.Rows
theorem relO_lowN {v : V} {v' : Value} (r : RelV v v') (f : Str) : RelO (List.lookup f [(("name" : Str), v)]) (if f = "name" then some v' else none) := by
  by_cases hw : f = "name"
  · subst hw
    rw [if_pos rfl]
    have q : List.lookup ("name" : Str) [(("name" : Str), v)] = some v := by simp [List.lookup]
    rw [q]
    exact r
  · rw [if_neg hw]
    have qw : (f == ("name" : Str)) = false := by simpa using hw
    have q2 : List.lookup f [(("name" : Str), v)] = none := by simp [List.lookup, qw]
    rw [q2]
    trivial
section
variable {X : Cx} {C fI : Addr} {cn qn : Str}
/-- Low(e) -/
def tMkLowN (C : Addr) (ta : TA) : St → Hp → XK → Prop := fun σ H Q => ta σ H fun vs H1 => ∃ v, vs = [v] ∧ ∀ d, H1 d = none → Q (.ref C) (some d) (upd H1 d (.xd [(("name" : Str), v)]))
theorem pmk_lowN {a : Expr} {ta : TA} {p pos : Pos} {k : Nat} (T : PySem.LowN.LowTxt X.K X.mg cn qn C fI) (hr : Room k X.A) (ha : PA X [a] ta) (hg : Gl X cn) (hdb : (cn == ("__debug__" : Str)) = false := by decide)
    (he : starEach (a :: []) X.env = (false, eval a X.env) :: starEach [] X.env := by rfl) (hpl : (backTo pos (starEach [] X.env)).any (·.1) = false := by rfl) :
    PMk X (.Call (.Name cn p) [a] [] pos) (tMkLowN C ta) := by
  intro pins s σ H Q I h
  refine wpAny_Call_Name_kw (ld_glob I hg T.gC ?_ hdb)
  refine PySem.W.callWith_K (h₀ := X.base) I.ok.mod.kin T.kC (thn (ha.run pos pins s σ H _ I h) fun us s1 hh => ?_) he hpl
  obtain ⟨vs, H1, I1, r1, v, ev, q1⟩ := hh
  subst ev
  refine ⟨I1.kIn, ?_⟩
  cases r1 with
  | cons rv rn =>
    rename_i v' us'
    cases rn
    show wpAny _ _ (call (.ref C) [v']) _ _ _
    have hlim := I1.nolimit
    obtain ⟨hp, g, dr, tk, os⟩ := s1
    refine wpAny_call (PySem.LowN.low_made T I1.kIn hlim (by have := hr.dp; omega) fun h' tk' e d M => ?_)
    show MkP X pins σ Q (.ref e) ⟨h', g, dr, tk', os⟩
    obtain ⟨oe, fv, hoe, hc, hd, hdat, h1⟩ := M.obj
    have hns := M.ns
    obtain ⟨G', g1, g2⟩ := restrict h' fun b => decide (b ≠ e)
    have gk : ∀ b, b ≠ e → G'.get? b = h'.get? b := fun b hb => g1 b (decide_eq_true hb)
    have ge : G'.get? e = none := g2 e (by simp)
    have old : ∀ b o, hp.get? b = some o → G'.get? b = some o := fun b o q => (gk b (Nat.ne_of_lt (Nat.lt_of_lt_of_le (Heap.lt_size q) M.new))).trans (M.keep b o q)
    have ob : ObjOk X.prog X.w (upd H1 d (.xd [(("name" : Str), v)])) G' d (.xd [(("name" : Str), v)]) :=
      ⟨_, hns.at (fun o q => (gk d M.dne).trans q), fun f => relO_lowN rv f⟩
    have J : Inv X pins σ (upd H1 d (.xd [(("name" : Str), v)])) ⟨G', g, dr, tk', os⟩ := I1.laid (t' := tk') old M.dbig ob
    refine ⟨e, oe, fv, ⟨G', g, dr, tk', os⟩, _, .ref C, some d, rfl, J, fun b o q => ?_, ge, hoe, ⟨hc, hd⟩, hdat, h1, ?_, rfl, I1.bare, raises_own T.exC T.tyC, q1 d (I1.hok.fresh M.dbig)⟩
    · by_cases hb : b = e
      · have q' : G'.get? b = some o := q
        rw [hb, ge] at q'; cases q'
      · exact (gk b hb).symm.trans q
    · rw [upd_ne (Ne.symm M.dne)]
      exact I1.hok.fresh M.new
/-- raise Low(e) -/
def tRaiseLowN (C : Addr) (W : WX) (ta : TA) : TS := fun _ σ H => tMkLowN C ta σ H fun cls d H' => W cls d σ H'
theorem ps_raiseLowN {a : Expr} {ta : TA} {W : WX} {p pos pos2 : Pos} {k : Nat} (hc : X.calm = true) (T : PySem.LowN.LowTxt X.K X.mg cn qn C fI) (hr : Room k X.A) (tk : Takes X W) (ha : PA X [a] ta) (hg : Gl X cn) (hdb : (cn == ("__debug__" : Str)) = false := by decide)
    (he : starEach (a :: []) X.env = (false, eval a X.env) :: starEach [] X.env := by rfl) (hpl : (backTo pos (starEach [] X.env)).any (·.1) = false := by rfl) :
    PS X (.Raise (some (.Call (.Name cn p) [a] [] pos)) none pos2) (tRaiseLowN C W ta) := ps_raise hc tk (pmk_lowN T hr ha hg hdb he hpl)
/-- low.by, low the exception that the suite holds (at a; its class cls, its dict d) -/
def tByLowN (C : Addr) (a : Addr) (cls : Value) (d : Option Addr) (te : TE) : TE := fun σ H Q => te σ H fun x H1 => x = .ref a ∧ cls = .ref C ∧ ∃ (dd : Addr) (v : V), d = some dd ∧ H1 dd = some (.xd [(("name" : Str), v)]) ∧ Q v H1
theorem pe_byLowN {a : Addr} {oe : Obj} {cls : Value} {d : Option Addr} {pn : List (Addr × Obj)} {e : Expr} {te : TE} {pos : Pos} (T : PySem.LowN.LowTxt X.K X.mg cn qn C fI) (hz : Zc cls d oe) (hf : ∃ vs, oe.data = .fields vs) (he : PE (X.suite a ((a, oe) :: pn)) e te)
    (hb : attributeBase e "name" X.env (eval e X.env) = eval e X.env := by rfl) :
    PE (X.suite a ((a, oe) :: pn)) (.Attribute e "name" pos) (tByLowN C a cls d te) := by
  refine ⟨fun pins s σ H Q I h => ?_⟩
  refine attr_of hb (thn (he.run pins s σ H _ I h) fun u s1 hh => ?_)
  obtain ⟨x, H1, I1, rx, ex, ec, dd, v, ed, ea, q⟩ := hh
  subst ex
  obtain rfl : u = Value.ref a := rx
  subst ec
  subst ed
  obtain ⟨ha, _⟩ := I1.pin (a, oe) (List.mem_append_left _ List.mem_cons_self)
  obtain ⟨vs, hd⟩ := hf
  have hx : ObjOk X.prog X.w H1 s1.heap dd (.xd [(("name" : Str), v)]) := I1.hok dd _ ea
  obtain ⟨mA, hns, hr⟩ := hx
  obtain ⟨od, ho, hl⟩ := lookIn_ns hns
  have l : List.lookup ("name" : Str) [(("name" : Str), v)] = some v := by simp [List.lookup]
  obtain ⟨u, hu, ru⟩ := RelO.some_of (v := v) (o := mA "name") (by rw [← l]; exact hr "name")
  have J : PySem.W.InstAt s1.heap a oe C (some od) := ⟨ha, hz.1, by unfold PySem.W.notCls; rw [hd] <;> rfl, by rw [hz.2]; exact ho⟩
  exact HandSPX.exc_get I1.kIn J T.ga T.gg T.exC (PySem.W.findObj_own T.hdC T.noN rfl (by rw [hl, hu])) (handed_of ru) ⟨v, H1, I1.tok _, ru, q⟩
end
end L2

namespace PySem
namespace LowM
open PySem.W PySem.Calls PyProof.Rows PySem.HandSPX
/-! ### the text of __init__ -/
def iA (p1 p2 : Pos) : Arguments := { posonlyargs := [], args := [{ arg := "self", annotation := none, pos := p1 }, { arg := "most", annotation := none, pos := p2 }], vararg := none, kwonlyargs := [], kw_defaults := [], kwarg := none, defaults := [] }
def iB (q1 q2 q3 q4 : Pos) : List Stmt := [.Assign [.Attribute (.Name "self" q1) "most" q2] (.Name "most" q3) q4]
def iS : Scope := { kind := .function, names := [(PySem.Str.ofString "self", .local), (PySem.Str.ofString "most", .local)], isGenerator := false, isCoroutine := false, more := [] }
/-- what the written part says of Low, at C, and of its __init__, at fI -/
structure LowTxt (K : Frag) (mg : Str → Option Value) (cn qn : Str) (C fI : Addr) : Prop where
  gC : mg cn = some (.ref C)
  cls : ∃ nm q N bs bm sn sub ab col dd k0 k1 k2 k3 k5, K.lookup C = some (excClassObj nm q C N bs bm true sn sub ab col dd k0 k1 k2 k3 k5 "ValueError.__new__") ∧ refsVE bm = true
  sa : findIn K (.ref C) "__setattr__" = some (some (.builtin "object.__setattr__"))
  ga : findIn K (.ref C) "__getattribute__" = some (some (.builtin "BaseException.__getattribute__"))
  gg : findIn K (.ref C) "__getattr__" = some none
  noN : findIn K (.ref C) "most" = some none
  iC : findIn K (.ref C) "__init__" = some (some (.ref fI))
  tC : typeIn K (.ref fI) = some (.type "function")
  kC : keepIn K (.ref C) = true
  exC : subIn K (.ref C) (.type "BaseException") = some true
  tyC : typeIn K (.ref C) = some (.type "type")
  hdC : hasDictIn K C = true
  te : exmOne K (.ref C) (.ref C) = some true
  fn : ∃ (oc : Value) (od : Option Addr) (doc pm : Value) (an : Option Addr) (cdv ct : Value) (osl : Array (Option Value)) (p1 p2 q1 q2 q3 q4 : Pos),
    K.lookup fI = some ⟨oc, od, .func (fnOf "__init__" qn (iA p1 p2) (iB q1 q2 q3 q4) iS .none .none doc pm an cdv ct), osl⟩ ∧ codeIn K cdv qn = true
theorem one_size (v : Value) : [v].length ≤ sizeLine := by
  rw [sizeLine_eq]
  exact (by decide : 1 ≤ 16777216)
theorem kept_but {K : Frag} {h h' : Heap} {x : Addr} (X : K.In h) (hx : K.lookup x = none) (k : ∀ b o, b ≠ x → h.get? b = some o → h'.get? b = some o) : K.In h' := fun a o e =>
  k a o (fun z => by rw [z, hx] at e; cases e) (X a o e)
theorem ldC {M : Model} {s : Shared} {name : Str} {scope : Scope} {L a : Addr} {cd : Value} {m : Str → Option Value} {x : Str} {pos : Pos} {v : Value} {Q : Value → Shared → Prop} {A : Around} {E : Value → Shared → Prop} (hn : s.heap.Ns L m) (hv : m x = some v) (h : Q v s)
    (hk : scope.kind = .function := by rfl) (hl : (envOfC name scope L a cd).kindOf x = some .local := by rfl) (hd : (x == ("__debug__" : Str)) = false := by decide) :
    wpAny M A (eval (.Name x pos) (envOfC name scope L a cd)) Q E s := wpAny_Name (wpAny_loadName_local hk hl hn hv h) hd
/-- what __init__ leaves of a fresh exception at x -/
structure InitEnd (h h' : Heap) (x C dx t1 : Addr) (v : Value) : Prop where
  keep : ∀ b o, b ≠ x → h.get? b = some o → h'.get? b = some o
  obj : h'.get? x = some { cls := .ref C, dict := some dx, data := .fields #[.ref t1, .none, .none, .none, .bool false, .none] }
  dbig : h.objs.size ≤ dx
  dne : dx ≠ x
  ns : h'.Ns1 dx (fun y => if y = "most" then some v else none)
/-- a made Low -/
structure OwnMade (h h' : Heap) (e C d : Addr) (v : Value) : Prop where
  keep : ∀ b o, h.get? b = some o → h'.get? b = some o
  new : h.objs.size ≤ e
  obj : ∃ oe vs, h'.get? e = some oe ∧ oe.cls = .ref C ∧ oe.dict = some d ∧ oe.data = .fields vs ∧ vs[1]? = some .none
  dbig : h.objs.size ≤ d
  dne : d ≠ e
  ns : h'.Ns1 d (fun y => if y = "most" then some v else none)
section
variable {prog : Program} {w : World} {A : Around} {E : Value → Shared → Prop} {R : Result → Shared → Prop} {s : Shared} {K : Frag} {mg : Str → Option Value} {C fI : Addr} {cn qn : Str}
theorem low_init (T : LowTxt K mg cn qn C fI) {x t0 : Addr} {v : Value} (X : K.In s.heap) (hlim : s.heap.NoLimit) (hx : s.heap.get? x = some (excO C t0)) (hnx : K.lookup x = none) (hroom : A.depth < recursionLimit)
    (hq : ∀ h' tk dx, InitEnd s.heap h' x C dx t0 v → R (.ok (.ret .none)) { s with heap := h', toks := tk }) :
    codeAny (model prog w) A (.call (.ref fI) ⟨[.ref x, v], []⟩) R s := by
  obtain ⟨oc, od, doc, pm, an, cdv, ct, osl, p1, p2, q1, q2, q3, q4, ho, hcd⟩ := T.fn
  obtain ⟨nm, q, N, bs, bm, sn, sub, ab, col, dd, k0, k1, k2, k3, k5, hC, hbm⟩ := T.cls
  have hcl : clsIn K C = some { name := nm, bases := bs, mro := .ref C :: bm, ns := N, qualname := q, hasDict := true, slotNames := sn, subclasses := sub, abstract := ab, collection := col, hasDel := false } := by unfold clsIn; rw [hC] <;> rfl
  refine Att.call_fn (binds := [("self", .ref x), ("most", v)]) X hlim ho hcd hroom (BindsTo.of_eq (by first | rfl | with_unfolding_all rfl)) (by first | rfl | decide | with_unfolding_all rfl) (fun s₁ IC => ?_) rfl rfl rfl
  obtain ⟨h₁, tk₁, rfl⟩ := IC.toInCall.same
  have k : ∀ b o, s.heap.get? b = some o → h₁.get? b = some o := IC.toInCall.keep
  have hn := IC.toInCall.ns
  have hxL : s.heap.objs.size ≠ x := Nat.ne_of_gt (Heap.lt_size hx)
  have X₁ : K.In h₁ := X.keeps k
  have hx₁ := k _ _ hx
  -- self.by = by
  show wpAny _ _ (execs _ _) _ _ _
  refine wpAny_execs_cons (plainObj_wpAny_Assign_Attribute ?_)
  refine ldC (v := v) hn (by first | rfl | with_unfolding_all rfl | kernel_rfl) (ldC (v := .ref x) hn (by first | rfl | with_unfolding_all rfl | kernel_rfl) ?_)
  refine set_plain X₁ (ox := excO C t0) (od := none) ⟨hx₁, rfl, rfl, trivial⟩ T.sa ?_
  refine exc_osa X₁ hx₁ hcl (show refsVE (.ref C :: bm) = true from hbm) rfl T.noN (fun h₃ tk₃ dx k₃ dn dne hx₃ hn₃ => ?_)
  show wpAny _ _ (execs _ _) _ _ _
  have z : s.heap.objs.size < h₁.objs.size := hn.lt
  exact wpAny_execs_nil (hq h₃ tk₃ dx ⟨fun b o hb e => k₃ b o hb (k b o e), hx₃, Nat.le_of_lt (Nat.lt_of_lt_of_le z dn), dne, hn₃⟩)
theorem low_made (T : LowTxt K mg cn qn C fI) {v : Value} (X : K.In s.heap) (hlim : s.heap.NoLimit) (hroom : A.depth + 1 < recursionLimit)
    (hq : ∀ h' tk e d, OwnMade s.heap h' e C d v → R (.ok (.ret (.ref e))) { s with heap := h', toks := tk }) :
    codeAny (model prog w) A (.call (.ref C) ⟨[v], []⟩) R s := by
  obtain ⟨nm, q, N, bs, bm, sn, sub, ab, col, dd, k0, k1, k2, k3, k5, hC, hbm⟩ := T.cls
  obtain ⟨hp, g, dr, tk, os⟩ := s
  have k : ∀ b o, hp.get? b = some o → ((hp.push (kdv_tup [v])).push (excO C hp.objs.size)).get? b = some o := fun b o e => Heap.get?_push_of_some _ (Heap.get?_push_of_some _ e)
  have hget : ((hp.push (kdv_tup [v])).push (excO C hp.objs.size)).get? (hp.objs.size + 1) = some (excO C hp.objs.size) := by heap_get
  have hnx : K.lookup (hp.objs.size + 1) = none := by
    cases e : K.lookup (hp.objs.size + 1) with
    | none => rfl
    | some o =>
      have z : hp.get? (hp.objs.size + 1) = some o := X _ _ e
      exact absurd (Nat.lt_of_succ_lt (Heap.lt_size z)) (Nat.lt_irrefl _)
  refine call_own F.excBase_ValueError (fun X => refsVE_contains X bm hbm) (X _ _ hC) (looks_findIn X T.iC) (fun self => bind_fn X self T.tC) (one_size v) ?_
  refine low_init (s := ⟨(hp.push (kdv_tup [v])).push (excO C hp.objs.size), g, dr, tk, os⟩) T (X.keeps k) (hlim.keeps k) hget hnx ?_ fun h' tk' dx ⟨k', hx, dn, dne, hns⟩ => ?_
  · show A.depth + 1 < recursionLimit
    exact hroom
  · have old : ∀ b o, hp.get? b = some o → h'.get? b = some o := fun b o e => k' b o (Nat.ne_of_lt (Nat.lt_succ_of_lt (Heap.lt_size e))) (k b o e)
    have z : hp.objs.size + 1 + 1 ≤ dx := by
      first
        | (simpa only [Heap.size_push] using dn)
        | exact dn
        | (have q := dn; rw [Heap.size_push, Heap.size_push] at q; exact q)
    exact ⟨rfl, hq h' tk' (hp.objs.size + 1) dx ⟨old, Nat.le_succ _, ⟨_, _, hx, rfl, rfl, rfl, rfl⟩, Nat.le_trans (Nat.le_trans (Nat.le_succ _) (Nat.le_succ _)) z, dne, hns⟩⟩
end
end LowM
end PySem
namespace L2
open PySem PySem.Spec PyProof.Rows
theorem relO_lowM {v : V} {v' : Value} (r : RelV v v') (f : Str) : RelO (List.lookup f [(("most" : Str), v)]) (if f = "most" then some v' else none) := by
  by_cases hw : f = "most"
  · subst hw
    rw [if_pos rfl]
    have q : List.lookup ("most" : Str) [(("most" : Str), v)] = some v := by simp [List.lookup]
    rw [q]
    exact r
  · rw [if_neg hw]
    have qw : (f == ("most" : Str)) = false := by simpa using hw
    have q2 : List.lookup f [(("most" : Str), v)] = none := by simp [List.lookup, qw]
    rw [q2]
    trivial
section
variable {X : Cx} {C fI : Addr} {cn qn : Str}
/-- Low(e) -/
def tMkLowM (C : Addr) (ta : TA) : St → Hp → XK → Prop := fun σ H Q => ta σ H fun vs H1 => ∃ v, vs = [v] ∧ ∀ d, H1 d = none → Q (.ref C) (some d) (upd H1 d (.xd [(("most" : Str), v)]))
theorem pmk_lowM {a : Expr} {ta : TA} {p pos : Pos} {k : Nat} (T : PySem.LowM.LowTxt X.K X.mg cn qn C fI) (hr : Room k X.A) (ha : PA X [a] ta) (hg : Gl X cn) (hdb : (cn == ("__debug__" : Str)) = false := by decide)
    (he : starEach (a :: []) X.env = (false, eval a X.env) :: starEach [] X.env := by rfl) (hpl : (backTo pos (starEach [] X.env)).any (·.1) = false := by rfl) :
    PMk X (.Call (.Name cn p) [a] [] pos) (tMkLowM C ta) := by
  intro pins s σ H Q I h
  refine wpAny_Call_Name_kw (ld_glob I hg T.gC ?_ hdb)
  refine PySem.W.callWith_K (h₀ := X.base) I.ok.mod.kin T.kC (thn (ha.run pos pins s σ H _ I h) fun us s1 hh => ?_) he hpl
  obtain ⟨vs, H1, I1, r1, v, ev, q1⟩ := hh
  subst ev
  refine ⟨I1.kIn, ?_⟩
  cases r1 with
  | cons rv rn =>
    rename_i v' us'
    cases rn
    show wpAny _ _ (call (.ref C) [v']) _ _ _
    have hlim := I1.nolimit
    obtain ⟨hp, g, dr, tk, os⟩ := s1
    refine wpAny_call (PySem.LowM.low_made T I1.kIn hlim (by have := hr.dp; omega) fun h' tk' e d M => ?_)
    show MkP X pins σ Q (.ref e) ⟨h', g, dr, tk', os⟩
    obtain ⟨oe, fv, hoe, hc, hd, hdat, h1⟩ := M.obj
    have hns := M.ns
    obtain ⟨G', g1, g2⟩ := restrict h' fun b => decide (b ≠ e)
    have gk : ∀ b, b ≠ e → G'.get? b = h'.get? b := fun b hb => g1 b (decide_eq_true hb)
    have ge : G'.get? e = none := g2 e (by simp)
    have old : ∀ b o, hp.get? b = some o → G'.get? b = some o := fun b o q => (gk b (Nat.ne_of_lt (Nat.lt_of_lt_of_le (Heap.lt_size q) M.new))).trans (M.keep b o q)
    have ob : ObjOk X.prog X.w (upd H1 d (.xd [(("most" : Str), v)])) G' d (.xd [(("most" : Str), v)]) :=
      ⟨_, hns.at (fun o q => (gk d M.dne).trans q), fun f => relO_lowM rv f⟩
    have J : Inv X pins σ (upd H1 d (.xd [(("most" : Str), v)])) ⟨G', g, dr, tk', os⟩ := I1.laid (t' := tk') old M.dbig ob
    refine ⟨e, oe, fv, ⟨G', g, dr, tk', os⟩, _, .ref C, some d, rfl, J, fun b o q => ?_, ge, hoe, ⟨hc, hd⟩, hdat, h1, ?_, rfl, I1.bare, raises_own T.exC T.tyC, q1 d (I1.hok.fresh M.dbig)⟩
    · by_cases hb : b = e
      · have q' : G'.get? b = some o := q
        rw [hb, ge] at q'; cases q'
      · exact (gk b hb).symm.trans q
    · rw [upd_ne (Ne.symm M.dne)]
      exact I1.hok.fresh M.new
/-- raise Low(e) -/
def tRaiseLowM (C : Addr) (W : WX) (ta : TA) : TS := fun _ σ H => tMkLowM C ta σ H fun cls d H' => W cls d σ H'
theorem ps_raiseLowM {a : Expr} {ta : TA} {W : WX} {p pos pos2 : Pos} {k : Nat} (hc : X.calm = true) (T : PySem.LowM.LowTxt X.K X.mg cn qn C fI) (hr : Room k X.A) (tk : Takes X W) (ha : PA X [a] ta) (hg : Gl X cn) (hdb : (cn == ("__debug__" : Str)) = false := by decide)
    (he : starEach (a :: []) X.env = (false, eval a X.env) :: starEach [] X.env := by rfl) (hpl : (backTo pos (starEach [] X.env)).any (·.1) = false := by rfl) :
    PS X (.Raise (some (.Call (.Name cn p) [a] [] pos)) none pos2) (tRaiseLowM C W ta) := ps_raise hc tk (pmk_lowM T hr ha hg hdb he hpl)
/-- low.by, low the exception that the suite holds (at a; its class cls, its dict d) -/
def tByLowM (C : Addr) (a : Addr) (cls : Value) (d : Option Addr) (te : TE) : TE := fun σ H Q => te σ H fun x H1 => x = .ref a ∧ cls = .ref C ∧ ∃ (dd : Addr) (v : V), d = some dd ∧ H1 dd = some (.xd [(("most" : Str), v)]) ∧ Q v H1
theorem pe_byLowM {a : Addr} {oe : Obj} {cls : Value} {d : Option Addr} {pn : List (Addr × Obj)} {e : Expr} {te : TE} {pos : Pos} (T : PySem.LowM.LowTxt X.K X.mg cn qn C fI) (hz : Zc cls d oe) (hf : ∃ vs, oe.data = .fields vs) (he : PE (X.suite a ((a, oe) :: pn)) e te)
    (hb : attributeBase e "most" X.env (eval e X.env) = eval e X.env := by rfl) :
    PE (X.suite a ((a, oe) :: pn)) (.Attribute e "most" pos) (tByLowM C a cls d te) := by
  refine ⟨fun pins s σ H Q I h => ?_⟩
  refine attr_of hb (thn (he.run pins s σ H _ I h) fun u s1 hh => ?_)
  obtain ⟨x, H1, I1, rx, ex, ec, dd, v, ed, ea, q⟩ := hh
  subst ex
  obtain rfl : u = Value.ref a := rx
  subst ec
  subst ed
  obtain ⟨ha, _⟩ := I1.pin (a, oe) (List.mem_append_left _ List.mem_cons_self)
  obtain ⟨vs, hd⟩ := hf
  have hx : ObjOk X.prog X.w H1 s1.heap dd (.xd [(("most" : Str), v)]) := I1.hok dd _ ea
  obtain ⟨mA, hns, hr⟩ := hx
  obtain ⟨od, ho, hl⟩ := lookIn_ns hns
  have l : List.lookup ("most" : Str) [(("most" : Str), v)] = some v := by simp [List.lookup]
  obtain ⟨u, hu, ru⟩ := RelO.some_of (v := v) (o := mA "most") (by rw [← l]; exact hr "most")
  have J : PySem.W.InstAt s1.heap a oe C (some od) := ⟨ha, hz.1, by unfold PySem.W.notCls; rw [hd] <;> rfl, by rw [hz.2]; exact ho⟩
  exact HandSPX.exc_get I1.kIn J T.ga T.gg T.exC (PySem.W.findObj_own T.hdC T.noN rfl (by rw [hl, hu])) (handed_of ru) ⟨v, H1, I1.tok _, ru, q⟩
end
end L2

namespace PySem
namespace LowC
open PySem.W PySem.Calls PyProof.Rows PySem.HandSPX
/-! ### the text of __init__ -/
def iA (p1 p2 : Pos) : Arguments := { posonlyargs := [], args := [{ arg := "self", annotation := none, pos := p1 }, { arg := "cut", annotation := none, pos := p2 }], vararg := none, kwonlyargs := [], kw_defaults := [], kwarg := none, defaults := [] }
def iB (q1 q2 q3 q4 : Pos) : List Stmt := [.Assign [.Attribute (.Name "self" q1) "cut" q2] (.Name "cut" q3) q4]
def iS : Scope := { kind := .function, names := [(PySem.Str.ofString "self", .local), (PySem.Str.ofString "cut", .local)], isGenerator := false, isCoroutine := false, more := [] }
/-- what the written part says of Low, at C, and of its __init__, at fI -/
structure LowTxt (K : Frag) (mg : Str → Option Value) (cn qn : Str) (C fI : Addr) : Prop where
  gC : mg cn = some (.ref C)
  cls : ∃ nm q N bs bm sn sub ab col dd k0 k1 k2 k3 k5, K.lookup C = some (excClassObj nm q C N bs bm true sn sub ab col dd k0 k1 k2 k3 k5 "ValueError.__new__") ∧ refsVE bm = true
  sa : findIn K (.ref C) "__setattr__" = some (some (.builtin "object.__setattr__"))
  ga : findIn K (.ref C) "__getattribute__" = some (some (.builtin "BaseException.__getattribute__"))
  gg : findIn K (.ref C) "__getattr__" = some none
  noN : findIn K (.ref C) "cut" = some none
  iC : findIn K (.ref C) "__init__" = some (some (.ref fI))
  tC : typeIn K (.ref fI) = some (.type "function")
  kC : keepIn K (.ref C) = true
  exC : subIn K (.ref C) (.type "BaseException") = some true
  tyC : typeIn K (.ref C) = some (.type "type")
  hdC : hasDictIn K C = true
  te : exmOne K (.ref C) (.ref C) = some true
  fn : ∃ (oc : Value) (od : Option Addr) (doc pm : Value) (an : Option Addr) (cdv ct : Value) (osl : Array (Option Value)) (p1 p2 q1 q2 q3 q4 : Pos),
    K.lookup fI = some ⟨oc, od, .func (fnOf "__init__" qn (iA p1 p2) (iB q1 q2 q3 q4) iS .none .none doc pm an cdv ct), osl⟩ ∧ codeIn K cdv qn = true
theorem one_size (v : Value) : [v].length ≤ sizeLine := by
  rw [sizeLine_eq]
  exact (by decide : 1 ≤ 16777216)
theorem kept_but {K : Frag} {h h' : Heap} {x : Addr} (X : K.In h) (hx : K.lookup x = none) (k : ∀ b o, b ≠ x → h.get? b = some o → h'.get? b = some o) : K.In h' := fun a o e =>
  k a o (fun z => by rw [z, hx] at e; cases e) (X a o e)
theorem ldC {M : Model} {s : Shared} {name : Str} {scope : Scope} {L a : Addr} {cd : Value} {m : Str → Option Value} {x : Str} {pos : Pos} {v : Value} {Q : Value → Shared → Prop} {A : Around} {E : Value → Shared → Prop} (hn : s.heap.Ns L m) (hv : m x = some v) (h : Q v s)
    (hk : scope.kind = .function := by rfl) (hl : (envOfC name scope L a cd).kindOf x = some .local := by rfl) (hd : (x == ("__debug__" : Str)) = false := by decide) :
    wpAny M A (eval (.Name x pos) (envOfC name scope L a cd)) Q E s := wpAny_Name (wpAny_loadName_local hk hl hn hv h) hd
/-- what __init__ leaves of a fresh exception at x -/
structure InitEnd (h h' : Heap) (x C dx t1 : Addr) (v : Value) : Prop where
  keep : ∀ b o, b ≠ x → h.get? b = some o → h'.get? b = some o
  obj : h'.get? x = some { cls := .ref C, dict := some dx, data := .fields #[.ref t1, .none, .none, .none, .bool false, .none] }
  dbig : h.objs.size ≤ dx
  dne : dx ≠ x
  ns : h'.Ns1 dx (fun y => if y = "cut" then some v else none)
/-- a made Low -/
structure OwnMade (h h' : Heap) (e C d : Addr) (v : Value) : Prop where
  keep : ∀ b o, h.get? b = some o → h'.get? b = some o
  new : h.objs.size ≤ e
  obj : ∃ oe vs, h'.get? e = some oe ∧ oe.cls = .ref C ∧ oe.dict = some d ∧ oe.data = .fields vs ∧ vs[1]? = some .none
  dbig : h.objs.size ≤ d
  dne : d ≠ e
  ns : h'.Ns1 d (fun y => if y = "cut" then some v else none)
section
variable {prog : Program} {w : World} {A : Around} {E : Value → Shared → Prop} {R : Result → Shared → Prop} {s : Shared} {K : Frag} {mg : Str → Option Value} {C fI : Addr} {cn qn : Str}
theorem low_init (T : LowTxt K mg cn qn C fI) {x t0 : Addr} {v : Value} (X : K.In s.heap) (hlim : s.heap.NoLimit) (hx : s.heap.get? x = some (excO C t0)) (hnx : K.lookup x = none) (hroom : A.depth < recursionLimit)
    (hq : ∀ h' tk dx, InitEnd s.heap h' x C dx t0 v → R (.ok (.ret .none)) { s with heap := h', toks := tk }) :
    codeAny (model prog w) A (.call (.ref fI) ⟨[.ref x, v], []⟩) R s := by
  obtain ⟨oc, od, doc, pm, an, cdv, ct, osl, p1, p2, q1, q2, q3, q4, ho, hcd⟩ := T.fn
  obtain ⟨nm, q, N, bs, bm, sn, sub, ab, col, dd, k0, k1, k2, k3, k5, hC, hbm⟩ := T.cls
  have hcl : clsIn K C = some { name := nm, bases := bs, mro := .ref C :: bm, ns := N, qualname := q, hasDict := true, slotNames := sn, subclasses := sub, abstract := ab, collection := col, hasDel := false } := by unfold clsIn; rw [hC] <;> rfl
  refine Att.call_fn (binds := [("self", .ref x), ("cut", v)]) X hlim ho hcd hroom (BindsTo.of_eq (by first | rfl | with_unfolding_all rfl)) (by first | rfl | decide | with_unfolding_all rfl) (fun s₁ IC => ?_) rfl rfl rfl
  obtain ⟨h₁, tk₁, rfl⟩ := IC.toInCall.same
  have k : ∀ b o, s.heap.get? b = some o → h₁.get? b = some o := IC.toInCall.keep
  have hn := IC.toInCall.ns
  have hxL : s.heap.objs.size ≠ x := Nat.ne_of_gt (Heap.lt_size hx)
  have X₁ : K.In h₁ := X.keeps k
  have hx₁ := k _ _ hx
  -- self.by = by
  show wpAny _ _ (execs _ _) _ _ _
  refine wpAny_execs_cons (plainObj_wpAny_Assign_Attribute ?_)
  refine ldC (v := v) hn (by first | rfl | with_unfolding_all rfl | kernel_rfl) (ldC (v := .ref x) hn (by first | rfl | with_unfolding_all rfl | kernel_rfl) ?_)
  refine set_plain X₁ (ox := excO C t0) (od := none) ⟨hx₁, rfl, rfl, trivial⟩ T.sa ?_
  refine exc_osa X₁ hx₁ hcl (show refsVE (.ref C :: bm) = true from hbm) rfl T.noN (fun h₃ tk₃ dx k₃ dn dne hx₃ hn₃ => ?_)
  show wpAny _ _ (execs _ _) _ _ _
  have z : s.heap.objs.size < h₁.objs.size := hn.lt
  exact wpAny_execs_nil (hq h₃ tk₃ dx ⟨fun b o hb e => k₃ b o hb (k b o e), hx₃, Nat.le_of_lt (Nat.lt_of_lt_of_le z dn), dne, hn₃⟩)
theorem low_made (T : LowTxt K mg cn qn C fI) {v : Value} (X : K.In s.heap) (hlim : s.heap.NoLimit) (hroom : A.depth + 1 < recursionLimit)
    (hq : ∀ h' tk e d, OwnMade s.heap h' e C d v → R (.ok (.ret (.ref e))) { s with heap := h', toks := tk }) :
    codeAny (model prog w) A (.call (.ref C) ⟨[v], []⟩) R s := by
  obtain ⟨nm, q, N, bs, bm, sn, sub, ab, col, dd, k0, k1, k2, k3, k5, hC, hbm⟩ := T.cls
  obtain ⟨hp, g, dr, tk, os⟩ := s
  have k : ∀ b o, hp.get? b = some o → ((hp.push (kdv_tup [v])).push (excO C hp.objs.size)).get? b = some o := fun b o e => Heap.get?_push_of_some _ (Heap.get?_push_of_some _ e)
  have hget : ((hp.push (kdv_tup [v])).push (excO C hp.objs.size)).get? (hp.objs.size + 1) = some (excO C hp.objs.size) := by heap_get
  have hnx : K.lookup (hp.objs.size + 1) = none := by
    cases e : K.lookup (hp.objs.size + 1) with
    | none => rfl
    | some o =>
      have z : hp.get? (hp.objs.size + 1) = some o := X _ _ e
      exact absurd (Nat.lt_of_succ_lt (Heap.lt_size z)) (Nat.lt_irrefl _)
  refine call_own F.excBase_ValueError (fun X => refsVE_contains X bm hbm) (X _ _ hC) (looks_findIn X T.iC) (fun self => bind_fn X self T.tC) (one_size v) ?_
  refine low_init (s := ⟨(hp.push (kdv_tup [v])).push (excO C hp.objs.size), g, dr, tk, os⟩) T (X.keeps k) (hlim.keeps k) hget hnx ?_ fun h' tk' dx ⟨k', hx, dn, dne, hns⟩ => ?_
  · show A.depth + 1 < recursionLimit
    exact hroom
  · have old : ∀ b o, hp.get? b = some o → h'.get? b = some o := fun b o e => k' b o (Nat.ne_of_lt (Nat.lt_succ_of_lt (Heap.lt_size e))) (k b o e)
    have z : hp.objs.size + 1 + 1 ≤ dx := by
      first
        | (simpa only [Heap.size_push] using dn)
        | exact dn
        | (have q := dn; rw [Heap.size_push, Heap.size_push] at q; exact q)
    exact ⟨rfl, hq h' tk' (hp.objs.size + 1) dx ⟨old, Nat.le_succ _, ⟨_, _, hx, rfl, rfl, rfl, rfl⟩, Nat.le_trans (Nat.le_trans (Nat.le_succ _) (Nat.le_succ _)) z, dne, hns⟩⟩
end
end LowC
end PySem
namespace L2
open PySem PySem.Spec PyProof.Rows
theorem relO_lowC {v : V} {v' : Value} (r : RelV v v') (f : Str) : RelO (List.lookup f [(("cut" : Str), v)]) (if f = "cut" then some v' else none) := by
  by_cases hw : f = "cut"
  · subst hw
    rw [if_pos rfl]
    have q : List.lookup ("cut" : Str) [(("cut" : Str), v)] = some v := by simp [List.lookup]
    rw [q]
    exact r
  · rw [if_neg hw]
    have qw : (f == ("cut" : Str)) = false := by simpa using hw
    have q2 : List.lookup f [(("cut" : Str), v)] = none := by simp [List.lookup, qw]
    rw [q2]
    trivial
section
variable {X : Cx} {C fI : Addr} {cn qn : Str}
/-- Low(e) -/
def tMkLowC (C : Addr) (ta : TA) : St → Hp → XK → Prop := fun σ H Q => ta σ H fun vs H1 => ∃ v, vs = [v] ∧ ∀ d, H1 d = none → Q (.ref C) (some d) (upd H1 d (.xd [(("cut" : Str), v)]))
theorem pmk_lowC {a : Expr} {ta : TA} {p pos : Pos} {k : Nat} (T : PySem.LowC.LowTxt X.K X.mg cn qn C fI) (hr : Room k X.A) (ha : PA X [a] ta) (hg : Gl X cn) (hdb : (cn == ("__debug__" : Str)) = false := by decide)
    (he : starEach (a :: []) X.env = (false, eval a X.env) :: starEach [] X.env := by rfl) (hpl : (backTo pos (starEach [] X.env)).any (·.1) = false := by rfl) :
    PMk X (.Call (.Name cn p) [a] [] pos) (tMkLowC C ta) := by
  intro pins s σ H Q I h
  refine wpAny_Call_Name_kw (ld_glob I hg T.gC ?_ hdb)
  refine PySem.W.callWith_K (h₀ := X.base) I.ok.mod.kin T.kC (thn (ha.run pos pins s σ H _ I h) fun us s1 hh => ?_) he hpl
  obtain ⟨vs, H1, I1, r1, v, ev, q1⟩ := hh
  subst ev
  refine ⟨I1.kIn, ?_⟩
  cases r1 with
  | cons rv rn =>
    rename_i v' us'
    cases rn
    show wpAny _ _ (call (.ref C) [v']) _ _ _
    have hlim := I1.nolimit
    obtain ⟨hp, g, dr, tk, os⟩ := s1
    refine wpAny_call (PySem.LowC.low_made T I1.kIn hlim (by have := hr.dp; omega) fun h' tk' e d M => ?_)
    show MkP X pins σ Q (.ref e) ⟨h', g, dr, tk', os⟩
    obtain ⟨oe, fv, hoe, hc, hd, hdat, h1⟩ := M.obj
    have hns := M.ns
    obtain ⟨G', g1, g2⟩ := restrict h' fun b => decide (b ≠ e)
    have gk : ∀ b, b ≠ e → G'.get? b = h'.get? b := fun b hb => g1 b (decide_eq_true hb)
    have ge : G'.get? e = none := g2 e (by simp)
    have old : ∀ b o, hp.get? b = some o → G'.get? b = some o := fun b o q => (gk b (Nat.ne_of_lt (Nat.lt_of_lt_of_le (Heap.lt_size q) M.new))).trans (M.keep b o q)
    have ob : ObjOk X.prog X.w (upd H1 d (.xd [(("cut" : Str), v)])) G' d (.xd [(("cut" : Str), v)]) :=
      ⟨_, hns.at (fun o q => (gk d M.dne).trans q), fun f => relO_lowC rv f⟩
    have J : Inv X pins σ (upd H1 d (.xd [(("cut" : Str), v)])) ⟨G', g, dr, tk', os⟩ := I1.laid (t' := tk') old M.dbig ob
    refine ⟨e, oe, fv, ⟨G', g, dr, tk', os⟩, _, .ref C, some d, rfl, J, fun b o q => ?_, ge, hoe, ⟨hc, hd⟩, hdat, h1, ?_, rfl, I1.bare, raises_own T.exC T.tyC, q1 d (I1.hok.fresh M.dbig)⟩
    · by_cases hb : b = e
      · have q' : G'.get? b = some o := q
        rw [hb, ge] at q'; cases q'
      · exact (gk b hb).symm.trans q
    · rw [upd_ne (Ne.symm M.dne)]
      exact I1.hok.fresh M.new
/-- raise Low(e) -/
def tRaiseLowC (C : Addr) (W : WX) (ta : TA) : TS := fun _ σ H => tMkLowC C ta σ H fun cls d H' => W cls d σ H'
theorem ps_raiseLowC {a : Expr} {ta : TA} {W : WX} {p pos pos2 : Pos} {k : Nat} (hc : X.calm = true) (T : PySem.LowC.LowTxt X.K X.mg cn qn C fI) (hr : Room k X.A) (tk : Takes X W) (ha : PA X [a] ta) (hg : Gl X cn) (hdb : (cn == ("__debug__" : Str)) = false := by decide)
    (he : starEach (a :: []) X.env = (false, eval a X.env) :: starEach [] X.env := by rfl) (hpl : (backTo pos (starEach [] X.env)).any (·.1) = false := by rfl) :
    PS X (.Raise (some (.Call (.Name cn p) [a] [] pos)) none pos2) (tRaiseLowC C W ta) := ps_raise hc tk (pmk_lowC T hr ha hg hdb he hpl)
/-- low.by, low the exception that the suite holds (at a; its class cls, its dict d) -/
def tByLowC (C : Addr) (a : Addr) (cls : Value) (d : Option Addr) (te : TE) : TE := fun σ H Q => te σ H fun x H1 => x = .ref a ∧ cls = .ref C ∧ ∃ (dd : Addr) (v : V), d = some dd ∧ H1 dd = some (.xd [(("cut" : Str), v)]) ∧ Q v H1
theorem pe_byLowC {a : Addr} {oe : Obj} {cls : Value} {d : Option Addr} {pn : List (Addr × Obj)} {e : Expr} {te : TE} {pos : Pos} (T : PySem.LowC.LowTxt X.K X.mg cn qn C fI) (hz : Zc cls d oe) (hf : ∃ vs, oe.data = .fields vs) (he : PE (X.suite a ((a, oe) :: pn)) e te)
    (hb : attributeBase e "cut" X.env (eval e X.env) = eval e X.env := by rfl) :
    PE (X.suite a ((a, oe) :: pn)) (.Attribute e "cut" pos) (tByLowC C a cls d te) := by
  refine ⟨fun pins s σ H Q I h => ?_⟩
  refine attr_of hb (thn (he.run pins s σ H _ I h) fun u s1 hh => ?_)
  obtain ⟨x, H1, I1, rx, ex, ec, dd, v, ed, ea, q⟩ := hh
  subst ex
  obtain rfl : u = Value.ref a := rx
  subst ec
  subst ed
  obtain ⟨ha, _⟩ := I1.pin (a, oe) (List.mem_append_left _ List.mem_cons_self)
  obtain ⟨vs, hd⟩ := hf
  have hx : ObjOk X.prog X.w H1 s1.heap dd (.xd [(("cut" : Str), v)]) := I1.hok dd _ ea
  obtain ⟨mA, hns, hr⟩ := hx
  obtain ⟨od, ho, hl⟩ := lookIn_ns hns
  have l : List.lookup ("cut" : Str) [(("cut" : Str), v)] = some v := by simp [List.lookup]
  obtain ⟨u, hu, ru⟩ := RelO.some_of (v := v) (o := mA "cut") (by rw [← l]; exact hr "cut")
  have J : PySem.W.InstAt s1.heap a oe C (some od) := ⟨ha, hz.1, by unfold PySem.W.notCls; rw [hd] <;> rfl, by rw [hz.2]; exact ho⟩
  exact HandSPX.exc_get I1.kIn J T.ga T.gg T.exC (PySem.W.findObj_own T.hdC T.noN rfl (by rw [hl, hu])) (handed_of ru) ⟨v, H1, I1.tok _, ru, q⟩
end
end L2

namespace RR
open PySem PySem.Spec PyProof.Rows L2

/-- Low(e), as a value -/
theorem pe_mkLowA {X : Cx} {C fI : Addr} {cn qn : Str} {a : Expr} {ta : TA} {p pos : Pos} {k : Nat} (T : PySem.LowA.LowTxt X.K X.mg cn qn C fI) (hr : Room k X.A) (ha : PA X [a] ta) (hg : Gl X cn) (hdb : (cn == ("__debug__" : Str)) = false := by decide)
    (he : starEach (a :: []) X.env = (false, eval a X.env) :: starEach [] X.env := by rfl) (hpl : (backTo pos (starEach [] X.env)).any (·.1) = false := by rfl) : PE X (.Call (.Name cn p) [a] [] pos) (tMkV "at" C ta) := by
  refine ⟨fun pins s σ H Q I h => wpAny_Call_Name_kw (ld_glob I hg T.gC (PySem.W.callWith_K (h₀ := X.base) I.ok.mod.kin T.kC (thn (ha.run pos pins s σ H _ I h) fun us s1 hh => ?_) he hpl) hdb)⟩
  obtain ⟨vs, H1, I1, r1, v, rfl, q1⟩ := hh
  refine ⟨I1.kIn, ?_⟩
  obtain ⟨v', rfl, rv⟩ := r1.one
  show wpAny _ _ (call (.ref C) [v']) _ _ _
  have nl := I1.nolimit
  have room : X.A.depth + 1 < recursionLimit := by have := hr.dp; omega
  obtain ⟨hp, g, dr, tk, os⟩ := s1
  exact wpAny_call (PySem.LowA.low_made T I1.kIn nl room fun h' tk' e d M => made_val I1 M.keep M.new M.obj M.dbig M.dne M.ns (fun f => relO_lowA rv f) (q1 e d))

/-- Low(e), as a value -/
theorem pe_mkLowN {X : Cx} {C fI : Addr} {cn qn : Str} {a : Expr} {ta : TA} {p pos : Pos} {k : Nat} (T : PySem.LowN.LowTxt X.K X.mg cn qn C fI) (hr : Room k X.A) (ha : PA X [a] ta) (hg : Gl X cn) (hdb : (cn == ("__debug__" : Str)) = false := by decide)
    (he : starEach (a :: []) X.env = (false, eval a X.env) :: starEach [] X.env := by rfl) (hpl : (backTo pos (starEach [] X.env)).any (·.1) = false := by rfl) : PE X (.Call (.Name cn p) [a] [] pos) (tMkV "name" C ta) := by
  refine ⟨fun pins s σ H Q I h => wpAny_Call_Name_kw (ld_glob I hg T.gC (PySem.W.callWith_K (h₀ := X.base) I.ok.mod.kin T.kC (thn (ha.run pos pins s σ H _ I h) fun us s1 hh => ?_) he hpl) hdb)⟩
  obtain ⟨vs, H1, I1, r1, v, rfl, q1⟩ := hh
  refine ⟨I1.kIn, ?_⟩
  obtain ⟨v', rfl, rv⟩ := r1.one
  show wpAny _ _ (call (.ref C) [v']) _ _ _
  have nl := I1.nolimit
  have room : X.A.depth + 1 < recursionLimit := by have := hr.dp; omega
  obtain ⟨hp, g, dr, tk, os⟩ := s1
  exact wpAny_call (PySem.LowN.low_made T I1.kIn nl room fun h' tk' e d M => made_val I1 M.keep M.new M.obj M.dbig M.dne M.ns (fun f => relO_lowN rv f) (q1 e d))

/-- Low(e), as a value -/
theorem pe_mkLowM {X : Cx} {C fI : Addr} {cn qn : Str} {a : Expr} {ta : TA} {p pos : Pos} {k : Nat} (T : PySem.LowM.LowTxt X.K X.mg cn qn C fI) (hr : Room k X.A) (ha : PA X [a] ta) (hg : Gl X cn) (hdb : (cn == ("__debug__" : Str)) = false := by decide)
    (he : starEach (a :: []) X.env = (false, eval a X.env) :: starEach [] X.env := by rfl) (hpl : (backTo pos (starEach [] X.env)).any (·.1) = false := by rfl) : PE X (.Call (.Name cn p) [a] [] pos) (tMkV "most" C ta) := by
  refine ⟨fun pins s σ H Q I h => wpAny_Call_Name_kw (ld_glob I hg T.gC (PySem.W.callWith_K (h₀ := X.base) I.ok.mod.kin T.kC (thn (ha.run pos pins s σ H _ I h) fun us s1 hh => ?_) he hpl) hdb)⟩
  obtain ⟨vs, H1, I1, r1, v, rfl, q1⟩ := hh
  refine ⟨I1.kIn, ?_⟩
  obtain ⟨v', rfl, rv⟩ := r1.one
  show wpAny _ _ (call (.ref C) [v']) _ _ _
  have nl := I1.nolimit
  have room : X.A.depth + 1 < recursionLimit := by have := hr.dp; omega
  obtain ⟨hp, g, dr, tk, os⟩ := s1
  exact wpAny_call (PySem.LowM.low_made T I1.kIn nl room fun h' tk' e d M => made_val I1 M.keep M.new M.obj M.dbig M.dne M.ns (fun f => relO_lowM rv f) (q1 e d))

/-- Low(e), as a value -/
theorem pe_mkLowC {X : Cx} {C fI : Addr} {cn qn : Str} {a : Expr} {ta : TA} {p pos : Pos} {k : Nat} (T : PySem.LowC.LowTxt X.K X.mg cn qn C fI) (hr : Room k X.A) (ha : PA X [a] ta) (hg : Gl X cn) (hdb : (cn == ("__debug__" : Str)) = false := by decide)
    (he : starEach (a :: []) X.env = (false, eval a X.env) :: starEach [] X.env := by rfl) (hpl : (backTo pos (starEach [] X.env)).any (·.1) = false := by rfl) : PE X (.Call (.Name cn p) [a] [] pos) (tMkV "cut" C ta) := by
  refine ⟨fun pins s σ H Q I h => wpAny_Call_Name_kw (ld_glob I hg T.gC (PySem.W.callWith_K (h₀ := X.base) I.ok.mod.kin T.kC (thn (ha.run pos pins s σ H _ I h) fun us s1 hh => ?_) he hpl) hdb)⟩
  obtain ⟨vs, H1, I1, r1, v, rfl, q1⟩ := hh
  refine ⟨I1.kIn, ?_⟩
  obtain ⟨v', rfl, rv⟩ := r1.one
  show wpAny _ _ (call (.ref C) [v']) _ _ _
  have nl := I1.nolimit
  have room : X.A.depth + 1 < recursionLimit := by have := hr.dp; omega
  obtain ⟨hp, g, dr, tk, os⟩ := s1
  exact wpAny_call (PySem.LowC.low_made T I1.kIn nl room fun h' tk' e d M => made_val I1 M.keep M.new M.obj M.dbig M.dne M.ns (fun f => relO_lowC rv f) (q1 e d))
end RR
set_option maxHeartbeats 4000000
namespace RR
open PySem PySem.Spec PyProof.Rows L2
/-! own classes asked as containers: len(o), x in o, o[x], o[x] = v; a property told; sorted by key=str -/
section
variable {X : Cx} {CX : CXT} {n : Nat} {C f p : Addr} {g : Sp} {E : XK} {ta tb tv : TE} {a b e o value : Expr} {pos pos' : Pos} {nm : Str}
def rLenO (C : Addr) (g : Sp) (E : XK) : List V → Hp → VK → Prop := fun xs H Q => ∃ a dx fs, xs = [.ref a] ∧ H a = some (.ins C dx fs) ∧ g [.ref a] H (fun v H' => ∃ i : Int, v = .int i ∧ 0 ≤ i ∧ i < 2 ^ 63 ∧ Q (.int i) H') E
theorem call_lenO (hs : PySem.W.findIn X.K (.ref C) "__len__" = some (some (.ref f))) (hf : PySem.W.isFn X.K (.ref f) = true) (F : FnR X.prog X.w X.K X.mg X.base CX n f g) (hr : Room (n + 1) X.A) (hx : Passes CX X E) : CallR X (.builtin "len") (rLenO C g E) := by
  intro pins s σ H xs us Q I rv h
  obtain ⟨a, dx, fs, rfl, ea, q⟩ := h
  obtain rfl := Vals.ref1 rv
  obtain ⟨od, J⟩ := inst_of I ea
  obtain ⟨m, fr⟩ := I.fr
  have hr2 : Room n X.A.in1 := Room.in1 hr
  refine PySem.W.len_K fr I.ok.mod.kin J hs hf (wpAny_mono (run_in (us := [.ref a]) (vs := [.ref a]) F hr2 I.env0.in1 hx I (.cons rfl .nil) q) ?_ fun _ _ z => z)
  rintro u s2 ⟨z, H2, I2, rz, i, rfl, h0, h1, q2⟩
  obtain ⟨t, rfl⟩ := (show ∃ t, u = Value.int i t from rz)
  exact ⟨⟨h0, h1⟩, .int i, H2, I2.tok _, ⟨_, rfl⟩, q2⟩

def rInO (C : Addr) (g : Sp) (E : XK) (b : Bool → Bool) : R2 := fun x y H Q => ∃ a dx fs, y = .ref a ∧ H a = some (.ins C dx fs) ∧ g [.ref a, x] H (fun v H' => ∃ k, v = .bl k ∧ Q (.bl (b k)) H') E
theorem op_inO (hs : PySem.W.findIn X.K (.ref C) "__contains__" = some (some (.ref f))) (hf : PySem.W.isFn X.K (.ref f) = true) (F : FnR X.prog X.w X.K X.mg X.base CX n f g) (hr : Room n X.A) (hx : Passes CX X E) : OpR X (compareOp .In) (rInO C g E id) := by
  intro pins s σ H x y v u Q I rx ry h
  obtain ⟨a, dx, fs, rfl, ea, q⟩ := h
  obtain rfl : u = .ref a := ry
  obtain ⟨od, J⟩ := inst_of I ea
  obtain ⟨m, fr⟩ := I.fr
  refine PySem.W.in_K fr I.ok.mod.kin J hs hf (wpAny_mono (wpAny_call (run_fnR (us := [.ref a, v]) (vs := [.ref a, x]) F hr hx I (.cons rfl (.cons rx .nil)) q)) ?_ fun _ _ z => z)
  rintro w s2 ⟨z, H2, I2, rz, k, rfl, q2⟩
  obtain rfl : w = .bool k := rz
  exact wpAny_truthy_bool ⟨.bl k, H2, I2, rfl, q2⟩
theorem op_notInO (hs : PySem.W.findIn X.K (.ref C) "__contains__" = some (some (.ref f))) (hf : PySem.W.isFn X.K (.ref f) = true) (F : FnR X.prog X.w X.K X.mg X.base CX n f g) (hr : Room n X.A) (hx : Passes CX X E) : OpR X (compareOp .NotIn) (rInO C g E not) := by
  intro pins s σ H x y v u Q I rx ry h
  obtain ⟨a, dx, fs, rfl, ea, q⟩ := h
  obtain rfl : u = .ref a := ry
  obtain ⟨od, J⟩ := inst_of I ea
  obtain ⟨m, fr⟩ := I.fr
  refine PySem.W.notIn_K fr I.ok.mod.kin J hs hf (wpAny_mono (wpAny_call (run_fnR (us := [.ref a, v]) (vs := [.ref a, x]) F hr hx I (.cons rfl (.cons rx .nil)) q)) ?_ fun _ _ z => z)
  rintro w s2 ⟨z, H2, I2, rz, k, rfl, q2⟩
  obtain rfl : w = .bool k := rz
  exact wpAny_truthy_bool ⟨.bl (!k), H2, I2, rfl, q2⟩

def rIxO (C : Addr) (g : Sp) (E : XK) : R2 := fun x y H Q => ∃ a dx fs, x = .ref a ∧ H a = some (.ins C dx fs) ∧ g [.ref a, y] H Q E
theorem pe_ixO (hs : PySem.W.findIn X.K (.ref C) "__getitem__" = some (some (.ref f))) (hfn : PySem.W.fnIn X.K f = true) (hf : PySem.W.isFn X.K (.ref f) = true) (F : FnR X.prog X.w X.K X.mg X.base CX n f g) (hr : Room (n + 1) X.A) (hx : Passes CX X E)
    (ha : PE X a ta) (hb : PE X b tb) (hsl : ∀ v u, subscripted b true v u = runValue (.builtin "lifetime.subscript" ⟨[v, u], []⟩) := by intro _ _; rfl) : PE X (.Subscript a b pos) (tOp (rIxO C g E) ta tb) := by
  refine ⟨fun pins s σ H Q I h => ?_⟩
  refine Subscript_ (binT ha hb I h fun v u s2 x y H2 I2 rx ry q => ?_)
  obtain ⟨c, dx, fs, rfl, ea, q⟩ := q
  obtain rfl : v = .ref c := rx
  obtain ⟨od, J⟩ := inst_of I2 ea
  obtain ⟨m, fr⟩ := I2.fr
  have hr2 : Room n X.A.in1 := Room.in1 hr
  exact PySem.W.sub_K fr I2.ok.mod.kin J hs hfn hf (run_in (us := [.ref c, u]) (vs := [.ref c, y]) F hr2 I2.env0.in1 hx I2 (.cons rfl (.cons ry .nil)) q) (hsl _ _)

def rSetO (C : Addr) (g : Sp) (E : XK) : TSet := fun o i v H Q => ∃ a dx fs, o = .ref a ∧ H a = some (.ins C dx fs) ∧ g [.ref a, i, v] H (fun _ H' => Q H') E
theorem set_ownO (hq : PySem.W.noSeq X.K C = true) (hs : PySem.W.findIn X.K (.ref C) "__setitem__" = some (some (.ref f))) (hf : PySem.W.isFn X.K (.ref f) = true) (F : FnR X.prog X.w X.K X.mg X.base CX n f g) (hr : Room n X.A) (hx : Passes CX X E) : PSet X (rSetO C g E) := by
  intro pins s σ H o i v ov iv u Q I ro ri rv h
  obtain ⟨a, dx, fs, rfl, ea, q⟩ := h
  obtain rfl : ov = .ref a := ro
  obtain ⟨od, J⟩ := inst_of I ea
  obtain ⟨m, fr⟩ := I.fr
  refine PySem.W.ksp_setItem fr I.ok.mod.kin J hq hs hf (wpAny_mono (wpAny_call (run_fnR (us := [.ref a, iv, u]) (vs := [.ref a, i, v]) F hr hx I (.cons rfl (.cons ri (.cons rv .nil))) q)) ?_ fun _ _ z => z)
  rintro w s2 ⟨z, H2, I2, rz, q2⟩
  exact ⟨H2, I2, q2⟩

/-- the class has the name as a property at p whose setter is the def at g -/
structure PropSet (K : PySem.W.Frag) (C : Addr) (f : Str) (p g : Addr) : Prop where
  tk : PySem.W.takerIn K C f = some (some (.ref p))
  ty : PySem.W.typeIn K (.ref p) = some (.type "property")
  rec_ : ∃ a rest, PySem.W.recIn K p "property" = some (a :: .ref g :: rest)
def sFldP (C : Addr) (g : Sp) (E : XK) (ta tv : TE) : TS := fun D σ H => tv σ H fun v H1 => ta σ H1 fun x H2 => ∃ a dx fs, x = .ref a ∧ H2 a = some (.ins C dx fs) ∧ g [.ref a, v] H2 (fun _ H' => D.nx σ H') E
theorem ps_fldP (ha : PE X o ta) (hv : PE X value tv) (c : Cls X.K C) (hp : PropSet X.K C nm p f) (F : FnR X.prog X.w X.K X.mg X.base CX n f g) (hr : Room (n + 2) X.A) (hx : Passes CX X E)
    (hs : swapsWith value (some (.Attribute o nm pos')) pos.line X.env = pure false) : PS X (.Assign [.Attribute o nm pos'] value pos) (sFldP C g E ta tv) := by
  refine ⟨fun pins s σ H D I h => ?_⟩
  refine plainObj_wpAny_Assign_Attribute (thn (hv.run pins s σ H _ I h) fun u s1 ⟨y, H1, I1, ry, q⟩ => thn (ha.run pins s1 σ H1 _ I1 q) fun ov s2 ⟨x, H2, I2, rx, a, dx, fs, ex, ea, q2⟩ => ?_) hs
  subst ex
  obtain rfl : ov = Value.ref a := rx
  obtain ⟨od, J⟩ := inst_of I2 ea
  obtain ⟨m, fr⟩ := I2.fr
  obtain ⟨a0, rest, hrec⟩ := hp.rec_
  have I3 := I2.tok (s2.toks + 1)
  have hr2 : Room n X.A.in1.in1 := Room.in1 (Room.in1 hr)
  refine PySem.W.set_prop fr I2.ok.mod.kin J c.sa c.po hp.tk hp.ty hrec (codeAny_mono (F X.A.in1.in1 X.stack { s2 with toks := s2.toks + 1 } H2 [.ref a, u] [.ref a, y] (fun _ H' => D.nx σ H') E hr2 I3.env0.in1.in1 (.cons rfl (.cons ry .nil)) q2) fun r s' hq => ?_)
  cases r with
  | error e => exact hx pins σ H2 _ e s' I3 hq
  | ok fl =>
    cases fl with
    | ret v =>
      obtain ⟨v', H', I4, rv, q4⟩ := I3.after hq
      exact ⟨σ, H', I4, q4⟩
    | next => exact False.elim hq
    | brk => exact False.elim hq
    | cont => exact False.elim hq
end

/-! ### the order of texts -/
def leS (a b : Str) : Bool := decide (a.cps.toList ≤ b.cps.toList)
def srtS (xs : List Str) : List Str := xs.mergeSort leS
theorem leS_trans (a b c : Str) (h1 : leS a b = true) (h2 : leS b c = true) : leS a c = true := by
  unfold leS at *
  rw [decide_eq_true_eq] at *
  exact Std.le_trans h1 h2
theorem leS_total (a b : Str) : (leS a b || leS b a) = true := by
  unfold leS
  rw [Bool.or_eq_true, decide_eq_true_eq, decide_eq_true_eq]
  exact Std.le_total
theorem leS_anti (a b : Str) (h1 : leS a b = true) (h2 : leS b a = true) : a = b := by
  unfold leS at *
  rw [decide_eq_true_eq] at *
  have h := Std.le_antisymm h1 h2
  cases a; cases b
  congr
  exact Array.toList_inj.mp h
theorem srtS_perm (xs : List Str) : (srtS xs).Perm xs := List.mergeSort_perm xs leS
theorem srtS_pw (xs : List Str) : (srtS xs).Pairwise fun a b => leS a b = true := List.pairwise_mergeSort (fun a b c => leS_trans a b c) leS_total xs
theorem pw_perm_eq : ∀ {xs ys : List Str}, xs.Perm ys → (xs.Pairwise fun a b => leS a b = true) → (ys.Pairwise fun a b => leS a b = true) → xs = ys
  | [], ys, h, _, _ => (List.Perm.nil_eq h)
  | x :: xs, [], h, _, _ => absurd h.length_eq (by simp)
  | x :: xs, y :: ys, h, h1, h2 => by
    have hx : x ∈ y :: ys := h.mem_iff.mp List.mem_cons_self
    have hy : y ∈ x :: xs := h.mem_iff.mpr List.mem_cons_self
    have e : x = y := by
      rcases List.mem_cons.mp hx with e | hx
      · exact e
      rcases List.mem_cons.mp hy with e | hy
      · exact e.symm
      exact leS_anti _ _ ((List.pairwise_cons.mp h1).1 _ hy) ((List.pairwise_cons.mp h2).1 _ hx)
    subst e
    rw [pw_perm_eq (List.Perm.cons_inv h) (List.pairwise_cons.mp h1).2 (List.pairwise_cons.mp h2).2]
theorem srtS_congr {xs ys : List Str} (h : xs.Perm ys) : srtS xs = srtS ys := pw_perm_eq (((srtS_perm xs).trans h).trans (srtS_perm ys).symm) (srtS_pw xs) (srtS_pw ys)
theorem srtS_len (xs : List Str) : (srtS xs).length = xs.length := (srtS_perm xs).length_eq
theorem srtS_mem {xs : List Str} {a : Str} : a ∈ srtS xs ↔ a ∈ xs := (srtS_perm xs).mem_iff
theorem srtS_idem (xs : List Str) : srtS (srtS xs) = srtS xs := srtS_congr (srtS_perm xs)

theorem each_strs : ∀ {xs : List Str} {its : List Value}, Vals (xs.map V.str) its → PySem.W.EachIs (fun (v : Value) (x : Str) => ∃ t, v = .str x t) its xs := by
  intro xs
  induction xs with
  | nil => intro us h; cases h; exact .nil
  | cons b bs ih =>
    intro us h
    cases h with
    | cons r t => exact .cons r (ih t)
theorem strs_each : ∀ {xs : List Str} {its : List Value}, PySem.W.EachIs (fun (v : Value) (x : Str) => ∃ t, v = .str x t) its xs → Vals (xs.map V.str) its := by
  intro xs
  induction xs with
  | nil => intro us h; cases h; exact .nil
  | cons b bs ih =>
    intro us h
    cases h with
    | cons r t => exact .cons r (ih t)
theorem alike_strs (xs : List Str) : PySem.W.AllAlike (xs.map fun b => PyData.str b) := PySem.W.AllAlike.of fun b b' => rfl
theorem sortable_strs (xs : List Str) : PySem.W.Sortable (xs.map fun b => PyData.str b) := PySem.W.Sortable.others fun b => ⟨(fun z => nomatch z), fun xs z => nomatch z⟩
theorem srt_data (xs : List Str) : xs.mergeSort (PySem.W.dataLe false fun b => PyData.str b) = srtS xs := by
  rw [PySem.W.dataLe_str (fun b : Str => b)]; rfl
section
variable {X : Cx}
def rSortFS (K : PySem.W.Frag) : List V → Hp → VK → Prop := fun vs H Q => ∃ (a : Addr) (xs : List Str), vs = [V.ref a] ∧ SqL K H a (xs.map V.str) ∧ ∀ p, H p = none → Q (.ref p) (upd H p (.lst ((srtS xs).map V.str)))
/-- sorted(texts), as a function -/
theorem cr_sortFS (hu : X.A.units + 2 < cLine) : CallR X (.builtin "sorted") (rSortFS X.K) := by
  intro pins s σ H vs us Q I r h
  obtain ⟨a, xs, rfl, hs, q⟩ := h
  obtain rfl := Vals.ref1 r
  obtain ⟨its, rv, hl, hz⟩ := I.list hs
  have he := each_strs rv
  refine PySem.W.sorted_data (enc := fun b : Str => PyData.str b) hl.isList he (he.mono fun v x ⟨t, e⟩ => ⟨[], by rw [e]; exact .str _ _⟩) (alike_strs xs) (sortable_strs xs) (by rw [List.length_map] at hz; exact hz) (fun b _ => hu) fun out l ho => ?_
  rw [srt_data] at ho
  obtain ⟨ep, he'⟩ := PyProof.Rows.sortedAll_at s.heap its out.toArray
  have hlen : ((srtS xs).map V.str).length ≤ sizeLine := by rw [List.length_map, srtS_len, ← List.length_map (f := V.str)]; exact hz
  exact ⟨.ref _, upd H (s.heap.objs.size + 1) (.lst ((srtS xs).map V.str)), I.laid (t' := s.toks) (fun _ _ => PyProof.Rows.sortedAll_old) (Nat.le_succ _) ⟨hlen, out, ep, strs_each ho, he'⟩, rfl, q _ (I.hok.fresh (Nat.le_succ _))⟩
def rSortKS (K : PySem.W.Frag) : List V → List V → Hp → VK → Prop := fun vs zs H Q => zs = [.ty "str"] ∧ rSortFS K vs H Q
/-- sorted(texts, key=str) -/
theorem cr_sortKS (hu : X.A.units + 2 < cLine) : CallRK X (.builtin "sorted") [Str.ofString "key"] (rSortKS X.K) := by
  intro pins s σ H vs zs us ws Q I r rz h
  obtain ⟨rfl, a, xs, rfl, hs, q⟩ := h
  obtain rfl := Vals.ref1 r
  obtain ⟨w1, rfl, e1⟩ := vals1 rz
  obtain rfl : w1 = Value.type "str" := e1
  obtain ⟨its, rv, hl, hz⟩ := I.list hs
  have he := each_strs rv
  refine PySem.W.sorted_key_data (b := false) (f := .type "str") (k := fun b : Str => PyData.str b) hl.isList he (alike_strs xs) (sortable_strs xs) (by rw [List.length_map] at hz; exact hz) (fun b _ => hu) (PyProof.Rows.ksk_s1 _ _) (fun _ => PyProof.Rows.ksk_l1 _ _) (fun _ => rfl) ?_ fun out c h' tk k hn ho l eo => ?_
  · rintro v x ⟨t, rfl⟩ hx h tk kp
    exact PySem.P.str_of_str ⟨h, tk, rfl, fun _ _ e => e, .str _ _⟩
  · rw [srt_data] at eo
    have hlen : ((srtS xs).map V.str).length ≤ sizeLine := by rw [List.length_map, srtS_len, ← List.length_map (f := V.str)]; exact hz
    exact ⟨.ref _, upd H (s.heap.objs.size + 1) (.lst ((srtS xs).map V.str)), I.laid (t' := tk) k (Nat.le_succ _) ⟨hlen, out, c, strs_each eo, ho⟩, rfl, q _ (I.hok.fresh (Nat.le_succ _))⟩
end
/-! ### two tuples of the same items -/
section
variable {X : Cx}
theorem eqAt_v {A : Around} {s : Shared} {v : V} {u u' : Value} (r : RelV v u) (r' : RelV v u') (f : flatB v = true ∨ ∃ a, v = .ref a) : SeqAt.EqAt A s u u' true := by
  rcases f with f | ⟨a, rfl⟩
  · exact eqAt_same r r' f
  · cases (show u = Value.ref a from r)
    cases (show u' = Value.ref a from r')
    exact SeqAt.EqAt.same _
theorem eqAt_vals {A : Around} {s : Shared} : ∀ {xs : List V} {us ws : List Value}, (∀ x ∈ xs, flatB x = true ∨ ∃ a, x = .ref a) → Vals xs us → Vals xs ws → ∀ j (h1 : j < us.length) (h2 : j < ws.length), SeqAt.EqAt A s us[j] ws[j] true := by
  intro xs
  induction xs with
  | nil =>
    intro us ws _ r1 r2 j h1 h2
    cases r1
    exact absurd h1 (Nat.not_lt_zero j)
  | cons x xs ih =>
    intro us ws hf r1 r2 j h1 h2
    cases r1 with
    | cons a1 b1 =>
      cases r2 with
      | cons a2 b2 =>
        cases j with
        | zero => exact eqAt_v a1 a2 (hf x List.mem_cons_self)
        | succ j => exact ih (fun y hy => hf y (List.mem_cons_of_mem _ hy)) b1 b2 j (Nat.lt_of_succ_lt_succ h1) (Nat.lt_of_succ_lt_succ h2)
def rEqTS (K : PySem.W.Frag) : R2 := fun x y H Q => ∃ a b xs, x = .ref a ∧ y = .ref b ∧ SqT K H a xs ∧ SqT K H b xs ∧ (∀ z ∈ xs, flatB z = true ∨ ∃ c, z = .ref c) ∧ Q (.bl true) H
theorem op_eqTS (hu : X.A.units < cLine) : OpR X (compareOp .Eq) (rEqTS X.K) := by
  intro pins s σ H x y v u Q I rx ry h
  obtain ⟨a, b, xs, rfl, rfl, ha, hb, hf, q⟩ := h
  obtain rfl : v = .ref a := rx
  obtain rfl : u = .ref b := ry
  obtain ⟨us, r1, p1, _⟩ := I.tuple ha
  obtain ⟨ws, r2, p2, _⟩ := I.tuple hb
  have hl : us.length = ws.length := by rw [← r1.length, ← r2.length]
  refine SeqAt.eq_tupleAt (items := us.toArray) (items2 := ws.toArray) (e := fun _ => true) p1 p2 hu (fun j h1 h2 => ?_) ?_
  · have k := eqAt_vals (A := X.A.in1) (s := s) hf r1 r2 j (by simpa using h1) (by simpa using h2)
    simpa using k
  · rw [show ((List.range (min us.toArray.size ws.toArray.size)).all fun _ => true) = true from List.all_eq_true.mpr fun _ _ => rfl, show (us.toArray.size == ws.toArray.size) = true from by simp [hl]]
    exact ⟨.bl true, H, I, rfl, q⟩
end
end RR
set_option maxHeartbeats 4000000
namespace RR
open PySem PySem.Spec PyProof.Rows L2 LamX
/-! ### names -/
def resV : List V := [.str "open", .str "shut", .str "net"]
def isName (x : Str) : Bool := (decide ((1 : Int) ≤ (x.length : Int)) && decide ((x.length : Int) ≤ 8)) && ((!inV (.str x) resV) && (Txt.isascii x && (Txt.isalpha x && Txt.islower x)))
def NotName (K : PySem.W.Frag) (H : Hp) (v : V) : Prop := (∃ x, v = .str x ∧ x.length ≤ sizeLine ∧ isName x = false) ∨ NoStr K H v
def NameV (v : V) (x : Str) : Prop := v = .str x ∧ x.length ≤ sizeLine ∧ isName x = true
def spIsName (K : PySem.W.Frag) : Sp := fun vs H Q _ => ∃ v b, vs = [v] ∧ ((b = true ∧ ∃ x, NameV v x) ∨ (b = false ∧ NotName K H v)) ∧ Q (.bl b) H
def words11 : List Str := ["a", "b", "ab", "x", "abcdefgh", "nets", "opens", "shu", "zz", "z", "m"]
def wordsL : List Str := ["a", "b", "ab", "x", "abcdefgh", "nets", "opens", "shu", "zz", "z", "m", "qq"]
theorem words_in : ∀ x ∈ words11, x ∈ wordsL := by decide +kernel
theorem words_ok : ∀ x ∈ wordsL, isName x = true := by decide +kernel
theorem words_ln : ∀ x ∈ wordsL, x.length ≤ 8 := by decide +kernel
theorem words_so : ∀ x ∈ wordsL, PyData.strOk x = true := by decide +kernel
theorem words_q : ∀ x ∈ wordsL, x ≠ "qqqqqqqq" := by decide +kernel
theorem le_line8 {n : Nat} (h : n ≤ 8) : n ≤ sizeLine := by rw [sizeLine_eq]; omega
theorem words_nm {x : Str} (h : x ∈ wordsL) : NameV (.str x) x := ⟨rfl, le_line8 (words_ln x h), words_ok x h⟩
/-! ### dicts of names -/
abbrev Told := Str → Option Pq
def setT (T : Told) (x : Str) (q : Pq) : Told := fun y => if y = x then some q else T y
structure Dct (R : V → Pq → Prop) (kvs : List (Key × V)) (ks : List Str) (T : Told) : Prop where
  keys : kvs.map (·.1) = ks.map Sum.inr
  nd : ks.Nodup
  dom : ∀ x, x ∈ ks ↔ (T x).isSome = true
  val : ∀ x q, T x = some q → ∃ v, valV kvs (Sum.inr x) = some v ∧ R v q
theorem valV_none : ∀ {kvs : List (Key × V)} {ks : List Str} {x : Str}, kvs.map (·.1) = ks.map Sum.inr → x ∉ ks → valV kvs (Sum.inr x) = none := by
  intro kvs
  induction kvs with
  | nil => intro ks x _ _; rfl
  | cons p r ih =>
    intro ks x e h
    cases ks with
    | nil => cases e
    | cons k ks =>
      rw [List.map_cons, List.map_cons] at e
      have e1 : p.1 = Sum.inr k := (List.cons.inj e).1
      rw [valV_neg (by rw [e1]; intro z; exact h (by rw [Sum.inr.inj z]; exact List.mem_cons_self))]
      exact ih (List.cons.inj e).2 fun z => h (List.mem_cons_of_mem _ z)
theorem Dct.nil {R : V → Pq → Prop} : Dct R [] [] fun _ => none := ⟨rfl, .nil, fun x => by simp, fun _ _ z => nomatch z⟩
theorem Dct.none {R : V → Pq → Prop} {kvs : List (Key × V)} {ks : List Str} {T : Told} (D : Dct R kvs ks T) {x : Str} (h : T x = none) : valV kvs (Sum.inr x) = none :=
  valV_none D.keys fun z => by rw [D.dom, h] at z; cases z
theorem Dct.some? {R : V → Pq → Prop} {kvs : List (Key × V)} {ks : List Str} {T : Told} (D : Dct R kvs ks T) (x : Str) : (valV kvs (Sum.inr x)).isSome = (T x).isSome := by
  cases h : T x with
  | none => rw [D.none h]; rfl
  | some q =>
    obtain ⟨v, e, _⟩ := D.val x q h
    rw [e]; rfl
theorem Dct.len {R : V → Pq → Prop} {kvs : List (Key × V)} {ks : List Str} {T : Told} (D : Dct R kvs ks T) : kvs.length = ks.length := by
  have := congrArg List.length D.keys
  rw [List.length_map, List.length_map] at this
  exact this
theorem Dct.imp {R R' : V → Pq → Prop} {kvs : List (Key × V)} {ks : List Str} {T : Told} (D : Dct R kvs ks T) (h : ∀ v q, R v q → R' v q) : Dct R' kvs ks T :=
  ⟨D.keys, D.nd, D.dom, fun x q e => let ⟨v, a, b⟩ := D.val x q e; ⟨v, a, h v q b⟩⟩
theorem keys_putK_in : ∀ (kvs : List (Key × V)) (k : Key) (v : V), (kvs.map fun kv => if kv.1 = k then (kv.1, v) else kv).map (·.1) = kvs.map (·.1)
  | [], _, _ => rfl
  | p :: r, k, v => by
    rw [List.map_cons, List.map_cons, List.map_cons, keys_putK_in r k v]
    split <;> rfl
theorem Dct.put {R : V → Pq → Prop} {kvs : List (Key × V)} {ks : List Str} {T : Told} (D : Dct R kvs ks T) {x : Str} {q : Pq} {v : V} (r : R v q) : ∃ ks', Dct R (putK kvs (Sum.inr x) v) ks' (setT T x q) := by
  have hv : ∀ y q', setT T x q y = some q' → ∃ u, valV (putK kvs (Sum.inr x) v) (Sum.inr y) = some u ∧ R u q' := fun y q' h => by
    rw [valV_put]
    unfold setT at h
    by_cases e : y = x
    · rw [if_pos e] at h
      rw [if_pos (by rw [e])]
      cases h
      exact ⟨v, rfl, r⟩
    · rw [if_neg e] at h
      rw [if_neg fun z => e (Sum.inr.inj z)]
      exact D.val y q' h
  by_cases h : x ∈ ks
  · refine ⟨ks, ?_, D.nd, fun y => ?_, hv⟩
    · unfold putK
      rw [if_pos (by rw [valV_any, D.some?, ← D.dom]; exact h), keys_putK_in]
      exact D.keys
    · unfold setT
      by_cases e : y = x
      · rw [if_pos e, e]; exact ⟨fun _ => rfl, fun _ => h⟩
      · rw [if_neg e]; exact D.dom y
  · have hn : T x = Option.none := by
      cases e : T x with
      | none => rfl
      | some q => exact absurd ((D.dom x).mpr (by rw [e]; rfl)) h
    refine ⟨ks ++ [x], ?_, ?_, fun y => ?_, hv⟩
    · rw [putK_new _ (D.none hn), List.map_append, List.map_append, D.keys]; rfl
    · rw [List.nodup_append]
      exact ⟨D.nd, by simp, fun a ha b hb => by rw [List.mem_singleton.mp hb]; intro z; exact h (z ▸ ha)⟩
    · rw [List.mem_append, List.mem_singleton]
      unfold setT
      by_cases e : y = x
      · rw [if_pos e]; exact ⟨fun _ => rfl, fun _ => .inr e⟩
      · rw [if_neg e, D.dom y]; exact ⟨fun z => z.resolve_right e, .inl⟩
theorem Dct.perm {R R' : V → Pq → Prop} {kvs kvs' : List (Key × V)} {ks ks' : List Str} {T : Told} (D : Dct R kvs ks T) (D' : Dct R' kvs' ks' T) : ks.Perm ks' :=
  (List.perm_ext_iff_of_nodup D.nd D'.nd).mpr fun x => (D.dom x).trans (D'.dom x).symm
theorem nodup_le : ∀ {xs ys : List Str}, xs.Nodup → (∀ x ∈ xs, x ∈ ys) → xs.length ≤ ys.length
  | [], _, _, _ => Nat.zero_le _
  | x :: xs, ys, h, k => by
    have h1 := List.nodup_cons.mp h
    have hx := k x List.mem_cons_self
    have := nodup_le (xs := xs) (ys := ys.erase x) h1.2 fun y hy => (List.mem_erase_of_ne (fun z => h1.1 (by rw [← z]; exact hy) : y ≠ x)).mpr (k y (List.mem_cons_of_mem _ hy))
    rw [List.length_erase_of_mem hx] at this
    have := List.length_pos_of_mem hx
    rw [List.length_cons]
    omega
/-- names are known words, numbers are values -/
def GV (q : Pq) : Prop := 0 ≤ q.1 ∧ Low q.1 q.2 ∧ Sm 200 q.1 ∧ Sm 200 q.2
structure GT (T : Told) : Prop where
  nm : ∀ x q, T x = some q → x ∈ wordsL
  gv : ∀ x q, T x = some q → GV q
theorem GT.nil : GT (fun _ => Option.none) := ⟨(fun _ _ z => nomatch z), (fun _ _ z => nomatch z)⟩
theorem GT.set {T : Told} (g : GT T) {x : Str} {q : Pq} (hx : x ∈ wordsL) (hq : GV q) : GT (setT T x q) := by
  constructor
  · intro y q' h
    unfold setT at h
    by_cases e : y = x
    · rw [e]; exact hx
    · rw [if_neg e] at h; exact g.nm y q' h
  · intro y q' h
    unfold setT at h
    by_cases e : y = x
    · rw [if_pos e] at h; cases h; exact hq
    · rw [if_neg e] at h; exact g.gv y q' h
theorem GT.le {T : Told} (g : GT T) {R : V → Pq → Prop} {kvs : List (Key × V)} {ks : List Str} (D : Dct R kvs ks T) : ks.length ≤ 12 :=
  nodup_le (ys := wordsL) D.nd fun x hx => by
    obtain ⟨q, e⟩ := Option.isSome_iff_exists.mp ((D.dom x).mp hx)
    exact g.nm x q e
theorem GT.kw {T : Told} (g : GT T) {R : V → Pq → Prop} {kvs : List (Key × V)} {ks : List Str} (D : Dct R kvs ks T) {x : Str} (hx : x ∈ ks) : x ∈ wordsL := by
  obtain ⟨q, e⟩ := Option.isSome_iff_exists.mp ((D.dom x).mp hx)
  exact g.nm x q e
theorem GT.q {T : Told} (g : GT T) : T "qqqqqqqq" = none := by
  cases e : T "qqqqqqqq" with
  | none => rfl
  | some q => exact absurd rfl (words_q _ (g.nm _ _ e))
theorem lt_line {n : Nat} (h : n ≤ 1000) : n < sizeLine := by rw [sizeLine_eq]; omega
/-! ### Values -/
def RV (C : Addr) (H : Hp) (v : V) (q : Pq) : Prop := ∃ a, v = .ref a ∧ RatAt C H a q.1 q.2
def RestV (C : Addr) (H : Hp) (u : V) : Option Pq → Prop
  | none => u = .non
  | some q => RV C H u q
def GO : Option Pq → Prop
  | none => True
  | some q => GV q
structure ValAt (CV C : Addr) (H : Hp) (h d : Addr) (ks : List Str) (T : Told) (Rs : Option Pq) : Prop where
  ins : ∃ dx u, H h = some (.ins CV dx [("told", .ref d), ("untold", u)]) ∧ RestV C H u Rs
  dct : ∃ kvs, H d = some (.dK kvs) ∧ Dct (RV C H) kvs ks T
  gt : GT T
  go : GO Rs
theorem GV.low {q : Pq} (h : GV q) : 0 < q.2 := h.2.1.1
/-- how ratios stay -/
def StayR (C : Addr) (H H' : Hp) : Prop := ∀ a dx t b, H a = some (.ins C dx (rfs t b)) → H' a = some (.ins C dx (rfs t b))
theorem RV.stay {C : Addr} {H H' : Hp} {v : V} {q : Pq} (s : StayR C H H') (h : RV C H v q) : RV C H' v q := let ⟨a, e, dx, r⟩ := h; ⟨a, e, dx, s _ _ _ _ r⟩
theorem RestV.stay {C : Addr} {H H' : Hp} {u : V} (s : StayR C H H') : ∀ {o : Option Pq}, RestV C H u o → RestV C H' u o
  | none, h => h
  | some _, h => RV.stay s h
theorem StayR.ext {C : Addr} {H H' : Hp} (s : ExtN H H') : StayR C H H' := fun a _ _ _ e => s a _ e fun _ z => by cases z
theorem StayR.same {C : Addr} {H H' : Hp} (s : Same H H') : StayR C H H' := fun a _ _ _ e => s a _ e
theorem StayR.keep {C p : Addr} {H H' : Hp} (k : Keep p H H') {o : HO} (e : H p = some o) (n : ∀ dx t b, o ≠ .ins C dx (rfs t b)) : StayR C H H' := fun a _ _ _ h => k a _ h fun z => by
  subst z
  rw [e] at h
  exact n _ _ _ (Option.some.inj h)
theorem ins_told {CV C dx dy : Addr} {d : Addr} {u : V} {t b : Int} : (HO.ins CV dx [("told", .ref d), ("untold", u)]) ≠ .ins C dy (rfs t b) := fun z => by
  have h := (HO.ins.inj z).2.2
  unfold rfs at h
  have h2 := (List.cons.inj h).1
  have h3 := (Prod.mk.inj h2).1
  exact absurd h3 (by decide)
theorem ValAt.move {CV C : Addr} {H H' : Hp} {h d : Addr} {ks : List Str} {T : Told} {Rs : Option Pq} (V : ValAt CV C H h d ks T Rs) (s : StayR C H H')
    (kh : ∀ dx u, H h = some (.ins CV dx [("told", .ref d), ("untold", u)]) → H' h = some (.ins CV dx [("told", .ref d), ("untold", u)])) (kd : ∀ kvs, H d = some (.dK kvs) → H' d = some (.dK kvs)) : ValAt CV C H' h d ks T Rs := by
  obtain ⟨⟨dx, u, e, r⟩, ⟨kvs, f, D⟩, g, go⟩ := V
  exact ⟨⟨dx, u, kh _ _ e, r.stay s⟩, ⟨kvs, kd _ f, D.imp fun _ _ => RV.stay s⟩, g, go⟩
theorem ValAt.ext {CV C : Addr} {H H' : Hp} {h d : Addr} {ks : List Str} {T : Told} {Rs : Option Pq} (V : ValAt CV C H h d ks T Rs) (s : ExtN H H') : ValAt CV C H' h d ks T Rs :=
  V.move (.ext s) (fun _ _ e => s _ _ e fun _ z => by cases z) fun _ e => s _ _ e fun _ z => by cases z
theorem ValAt.same {CV C : Addr} {H H' : Hp} {h d : Addr} {ks : List Str} {T : Told} {Rs : Option Pq} (V : ValAt CV C H h d ks T Rs) (s : Same H H') : ValAt CV C H' h d ks T Rs := V.ext (.of s)
theorem ValAt.pen {CV C : Addr} {H H' : Hp} {h d p : Addr} {ks : List Str} {T : Told} {Rs : Option Pq} (Va : ValAt CV C H h d ks T Rs) {xs : List V} (e : H p = some (.lst xs)) (k : Keep p H H') : ValAt CV C H' h d ks T Rs :=
  Va.move (.keep k e fun _ _ _ z => by cases z) (fun _ _ f => k _ _ f (ne_of f e fun z => by cases z)) fun _ f => k _ _ f (ne_of f e fun z => by cases z)
/-- another dict changes -/
theorem ValAt.box {CV C : Addr} {H : Hp} {h d b : Addr} {ks : List Str} {T : Told} {Rs : Option Pq} (Va : ValAt CV C H h d ks T Rs) {kvs : List (Key × V)} (e : H b = some (.dK kvs)) (n : b ≠ d) (o : HO) : ValAt CV C (upd H b o) h d ks T Rs :=
  Va.move (fun a dx t b' f => hp_mut f (ne_of f e fun z => by cases z)) (fun _ _ f => hp_mut f (ne_of f e fun z => by cases z)) fun _ f => hp_mut f n.symm
/-! ### the law's dicts -/
def DctAt (H : Hp) (t : Addr) (ks : List Str) (T : Told) : Prop := ∃ kvs, H t = some (.dK kvs) ∧ Dct (PrV H) kvs ks T
def RestP (H : Hp) (u : V) : Option Pq → Prop
  | none => u = .non
  | some q => PrV H u q
structure BoxAt (H : Hp) (b t : Addr) (ks : List Str) (T : Told) (Rs : Option Pq) : Prop where
  bx : ∃ u, H b = some (.dK [(.inr "told", .ref t), (.inr "rest", u)]) ∧ RestP H u Rs
  dct : DctAt H t ks T
  nt : t ≠ b
def StayP (H H' : Hp) : Prop := ∀ a t b, Pr H a t b → Pr H' a t b
theorem PrV.stay {H H' : Hp} {v : V} {q : Pq} (s : StayP H H') (h : PrV H v q) : PrV H' v q := let ⟨a, e, r⟩ := h; ⟨a, e, s _ _ _ r⟩
theorem RestP.stay {H H' : Hp} {u : V} (s : StayP H H') : ∀ {o : Option Pq}, RestP H u o → RestP H' u o
  | none, h => h
  | some _, h => PrV.stay s h
theorem StayP.ext {H H' : Hp} (s : ExtN H H') : StayP H H' := fun a _ _ e => s a _ e fun _ z => by cases z
theorem StayP.keep {p : Addr} {H H' : Hp} (k : Keep p H H') {o : HO} (e : H p = some o) (n : ∀ xs, o ≠ .tup xs) : StayP H H' := fun a _ _ h => k a _ h fun z => by
  subst z
  have h : H a = some _ := h
  rw [e] at h
  exact n _ (Option.some.inj h)
theorem DctAt.move {H H' : Hp} {t : Addr} {ks : List Str} {T : Told} (D : DctAt H t ks T) (s : StayP H H') (k : ∀ kvs, H t = some (.dK kvs) → H' t = some (.dK kvs)) : DctAt H' t ks T :=
  let ⟨kvs, e, d⟩ := D; ⟨kvs, k _ e, d.imp fun _ _ => PrV.stay s⟩
theorem BoxAt.move {H H' : Hp} {b t : Addr} {ks : List Str} {T : Told} {Rs : Option Pq} (B : BoxAt H b t ks T Rs) (s : StayP H H') (kb : ∀ kvs, H b = some (.dK kvs) → H' b = some (.dK kvs)) (kt : ∀ kvs, H t = some (.dK kvs) → H' t = some (.dK kvs)) : BoxAt H' b t ks T Rs := by
  obtain ⟨⟨u, e, r⟩, D, n⟩ := B
  exact ⟨⟨u, kb _ e, r.stay s⟩, D.move s kt, n⟩
theorem BoxAt.ext {H H' : Hp} {b t : Addr} {ks : List Str} {T : Told} {Rs : Option Pq} (B : BoxAt H b t ks T Rs) (s : ExtN H H') : BoxAt H' b t ks T Rs :=
  B.move (.ext s) (fun _ e => s _ _ e fun _ z => by cases z) fun _ e => s _ _ e fun _ z => by cases z
theorem BoxAt.pen {H H' : Hp} {b t p : Addr} {ks : List Str} {T : Told} {Rs : Option Pq} (B : BoxAt H b t ks T Rs) {xs : List V} (e : H p = some (.lst xs)) (k : Keep p H H') : BoxAt H' b t ks T Rs :=
  B.move (.keep k e fun _ z => by cases z) (fun _ f => k _ _ f (ne_of f e fun z => by cases z)) fun _ f => k _ _ f (ne_of f e fun z => by cases z)
/-- the held values change -/
theorem BoxAt.held {H H' : Hp} {b t x : Addr} {ks : List Str} {T : Told} {Rs : Option Pq} (B : BoxAt H b t ks T Rs) {o : HO} (e : H x = some o) (n : ∀ xs, o ≠ .tup xs) (k : Keep x H H') (nb : b ≠ x) (nt : t ≠ x) : BoxAt H' b t ks T Rs :=
  B.move (.keep k e n) (fun _ f => k _ _ f nb) fun _ f => k _ _ f nt
def WAt (H : Hp) (l : Addr) (ws : List Str) : Prop := H l = some (.lst (ws.map V.str)) ∧ (∀ x ∈ ws, x ∈ wordsL) ∧ ws.length = 5
/-- between two deeds -/
structure SSt (CV C : Addr) (TB : List (Addr × Str)) (H : Hp) (p c : Addr) (ns : List Int) (h b l : Addr) (ws : List Str) (a g : Int) (d t : Addr) (ks ks' : List Str) (T : Told) (Rs : Option Pq) : Prop where
  W : PenAt H p c ns a g
  V : ValAt CV C H h d ks T Rs
  B : BoxAt H b t ks' T Rs
  L : WAt H l ws
  nb : b ≠ d
  nt : t ≠ d
  nl : l ≠ p
  tb : Tabs TB H
def StP (CV C : Addr) (TB : List (Addr × Str)) (H : Hp) (p c : Addr) (ns : List Int) (h b l : Addr) (ws : List Str) (a : Int) : Prop := ∃ g d t ks ks' T Rs, SSt CV C TB H p c ns h b l ws a g d t ks ks' T Rs
theorem SSt.ext {CV C : Addr} {TB : List (Addr × Str)} {H H' : Hp} {p c : Addr} {ns : List Int} {h b l : Addr} {ws : List Str} {a g : Int} {d t : Addr} {ks ks' : List Str} {T : Told} {Rs : Option Pq} (S : SSt CV C TB H p c ns h b l ws a g d t ks ks' T Rs) (s : ExtN H H') (tb : Tabs TB H') : SSt CV C TB H' p c ns h b l ws a g d t ks ks' T Rs :=
  ⟨⟨s _ _ S.W.pn (fun _ z => by cases z), s _ _ S.W.cs (fun _ z => by cases z), S.W.la, S.W.lb, S.W.ln⟩, S.V.ext s, S.B.ext s, ⟨s _ _ S.L.1 (fun _ z => by cases z), S.L.2⟩, S.nb, S.nt, S.nl, tb⟩
theorem SSt.pen {CV C : Addr} {TB : List (Addr × Str)} {H H' : Hp} {p c : Addr} {ns : List Int} {h b l : Addr} {ws : List Str} {a g a' g' : Int} {d t : Addr} {ks ks' : List Str} {T : Told} {Rs : Option Pq} (S : SSt CV C TB H p c ns h b l ws a g d t ks ks' T Rs) (h0 : a ≤ a') (h1 : a' ≤ 100000) (hp : H' p = some (pen c a' g')) (k : Keep p H H') : SSt CV C TB H' p c ns h b l ws a' g' d t ks ks' T Rs :=
  ⟨S.W.next h0 h1 hp k, S.V.pen S.W.pn k, S.B.pen S.W.pn k, ⟨k _ _ S.L.1 S.nl, S.L.2⟩, S.nb, S.nt, S.nl, tabs_keep S.tb S.W.pn k⟩
/-! ### promises of the class -/
def BadN (B : Addr) (x : V) (H : Hp) (E : XK) : Prop := ∀ d H', Same H H' → H' d = some (.xd [(("name" : Str), x)]) → E (.ref B) (some d) H'
theorem BadN.same {B : Addr} {x : V} {H H1 : Hp} {E : XK} (h : BadN B x H E) (s : Same H H1) : BadN B x H1 E := fun d H' s' e => h d H' (s.trans s') e
/-- a number that is no value -/
def BadNum (K : PySem.W.Frag) (C : Addr) (H : Hp) (w : V) : Prop := (∃ t b, NumV C H w t b ∧ Sm 100 t ∧ Sm 100 b ∧ (b = 0 ∨ (0 < b ∧ t < 0))) ∨ NotNum K C H w
/-- a number that is a value -/
def GoodNum (C : Addr) (H : Hp) (w : V) (q : Pq) : Prop := NumV C H w q.1 q.2 ∧ GV q
def spValueOf (K : PySem.W.Frag) (C : Addr) : Sp := fun vs H Q _ => ∃ w, vs = [w] ∧ ((∃ q, GoodNum C H w q ∧ ∀ a H', Same H H' → RatAt C H' a q.1 q.2 → Q (.ref a) H') ∨ (BadNum K C H w ∧ ∀ H', Same H H' → Q .non H'))
def spVInit (CV C : Addr) : Sp := fun vs H Q _ => ∃ x dx f kvs fk T, vs = [.ref x, .ref f] ∧ H x = some (.ins CV dx []) ∧ H f = some (.dK kvs) ∧ Dct (fun v q => GoodNum C H v q) kvs fk T ∧ GT T ∧
  ∀ d H', Keep x H H' → H d = none → ValAt CV C H' x d (srtS fk) T none → Q .non H'
def spVNames (CV C : Addr) : Sp := fun vs H Q _ => ∃ h d ks T Rs, vs = [.ref h] ∧ ValAt CV C H h d ks T Rs ∧ ∀ p H', Same H H' → H' p = some (.tup ((srtS ks).map V.str)) → Q (.ref p) H'
def spVLen (CV C : Addr) : Sp := fun vs H Q _ => ∃ h d ks T Rs, vs = [.ref h] ∧ ValAt CV C H h d ks T Rs ∧ Q (.int (ks.length : Nat)) H
def spVHas (K : PySem.W.Frag) (CV C : Addr) : Sp := fun vs H Q _ => ∃ h d ks T Rs v, vs = [.ref h, v] ∧ ValAt CV C H h d ks T Rs ∧ ((∃ x, NameV v x ∧ Q (.bl (T x).isSome) H) ∨ (NotName K H v ∧ Q (.bl false) H))
def GotV (C N : Addr) (x : V) (H : Hp) (Q : VK) (E : XK) : Option Pq → Prop
  | some q => ∀ a, RatAt C H a q.1 q.2 → Q (.ref a) H
  | none => BadN N x H E
def spVGet (K : PySem.W.Frag) (CV C N : Addr) : Sp := fun vs H Q E => ∃ h d ks T Rs v, vs = [.ref h, v] ∧ ValAt CV C H h d ks T Rs ∧ ((∃ x, NameV v x ∧ GotV C N v H Q E ((T x).or Rs)) ∨ (NotName K H v ∧ BadN N v H E))
def spVRest (CV C : Addr) : Sp := fun vs H Q _ => ∃ h d ks T Rs, vs = [.ref h] ∧ ValAt CV C H h d ks T Rs ∧ ∀ u, RestV C H u Rs → Q u H
def spVSet (K : PySem.W.Frag) (CV C BN BV : Addr) : Sp := fun vs H Q E => ∃ h d ks T Rs v w, vs = [.ref h, v, w] ∧ ValAt CV C H h d ks T Rs ∧ ((NotName K H v ∧ BadN BN v H E) ∨
  ∃ x, NameV v x ∧ x ∈ wordsL ∧ ((∃ q, GoodNum C H w q ∧ ∀ ks' H', Keep d H H' → ValAt CV C H' h d ks' (setT T x q) Rs → Q .non H') ∨ (BadNum K C H w ∧ BadN BV v H E)))
def spVPut (K : PySem.W.Frag) (CV C BV : Addr) : Sp := fun vs H Q E => ∃ h d ks T Rs w, vs = [.ref h, w] ∧ ValAt CV C H h d ks T Rs ∧
  ((w = .non ∧ ∀ H', Keep h H H' → ValAt CV C H' h d ks T none → Q .non H') ∨ (∃ q, GoodNum C H w q ∧ ∀ H', Keep h H H' → ValAt CV C H' h d ks T (some q) → Q .non H') ∨ (w ≠ .non ∧ BadNum K C H w ∧ BadN BV (.str "rest") H E))
/-- a dict comprehension over what is walked -/
theorem dc_it {J : It} {n : Nat} {G : Hp → Prop} {Y : Nat → Hp → V → Hp → Prop} (w : Walk J n G Y) {g : TG} {tt : TT} {tk tv : TE} {vs : List Nat} {σ : L2.St} {H1 : Hp} {D : Addr} {Qd : Hp → Prop} (Pv : Nat → Hp → Prop) (h0 : Pv 0 (upd H1 D (.dK []))) (hG : ∀ i H, i ≤ n → Pv i H → G H)
    (hs : ∀ i x H H', i < n → Pv i H → Y i H x H' → g x (wipe σ vs) H' fun σ2 H2 => wipe σ2 vs = wipe σ vs ∧ tt σ2 H2 fun b H3 =>
      if b = true then tk σ2 H3 fun y H4 => tv σ2 H4 fun z H5 => ∃ kvs k, y = kV k ∧ H5 D = some (.dK kvs) ∧ kvs.length < sizeLine ∧ Pv (i + 1) (upd H5 D (.dK (putK kvs k z))) else Pv (i + 1) H3) (hd : ∀ H, Pv n H → Qd H) :
    ∃ W : Nat → Nat → Hp → Prop, (∃ m, W 0 m (upd H1 D (.dK []))) ∧ ∀ i m H, W i m H →
      (J.stop i H ∧ Qd H) ∨ (J.go i H ∧ ∃ Nx : Hp → Prop, (∀ H', Nx H' → ∃ m', m' < m ∧ W (i + 1) m' H') ∧ ∀ x H', J.yld i H x H' → g x (wipe σ vs) H' fun σ2 H2 => wipe σ2 vs = wipe σ vs ∧ tt σ2 H2 fun b H3 =>
        if b = true then tk σ2 H3 fun y H4 => tv σ2 H4 fun z H5 => ∃ kvs k, y = kV k ∧ H5 D = some (.dK kvs) ∧ kvs.length < sizeLine ∧ Nx (upd H5 D (.dK (putK kvs k z))) else Nx H3) := by
  refine ⟨fun i m H => m = n - i ∧ i ≤ n ∧ Pv i H, ⟨n, by simp, Nat.zero_le _, h0⟩, ?_⟩
  rintro i m H ⟨rfl, hi, p⟩
  have q := hG i H hi p
  by_cases hlt : i < n
  · exact .inr ⟨w.goes i H hlt q, Pv (i + 1), fun H' p' => ⟨n - (i + 1), by omega, rfl, hlt, p'⟩, fun x H' y => hs i x H H' hlt p (w.yields i H x H' hlt q y)⟩
  · have e : i = n := by omega
    subst e
    exact .inl ⟨w.stops H q, hd H p⟩
theorem Dct.putNew {R : V → Pq → Prop} {kvs : List (Key × V)} {ks : List Str} {T : Told} (D : Dct R kvs ks T) {x : Str} {q : Pq} {v : V} (r : R v q) (h : x ∉ ks) : Dct R (putK kvs (Sum.inr x) v) (ks ++ [x]) (setT T x q) := by
  have hn : T x = Option.none := by
    cases e : T x with
    | none => rfl
    | some q => exact absurd ((D.dom x).mpr (by rw [e]; rfl)) h
  refine ⟨?_, ?_, fun y => ?_, fun y q' h => ?_⟩
  · rw [putK_new _ (D.none hn), List.map_append, List.map_append, D.keys]; rfl
  · rw [List.nodup_append]
    exact ⟨D.nd, by simp, fun a ha b hb => by rw [List.mem_singleton.mp hb]; intro z; exact h (z ▸ ha)⟩
  · rw [List.mem_append, List.mem_singleton]
    unfold setT
    by_cases e : y = x
    · rw [if_pos e]; exact ⟨fun _ => rfl, fun _ => .inr e⟩
    · rw [if_neg e, D.dom y]; exact ⟨fun z => z.resolve_right e, .inl⟩
  · rw [valV_put]
    unfold setT at h
    by_cases e : y = x
    · rw [if_pos e] at h
      rw [if_pos (by rw [e])]
      cases h
      exact ⟨v, rfl, r⟩
    · rw [if_neg e] at h
      rw [if_neg fun z => e (Sum.inr.inj z)]
      exact D.val y q' h
theorem Dct.strs {R : V → Pq → Prop} {kvs : List (Key × V)} {ks : List Str} {T : Told} (D : Dct R kvs ks T) : (kvs.map fun kv => kV kv.1) = ks.map V.str := by
  have h := congrArg (List.map kV) D.keys
  rw [List.map_map, List.map_map] at h
  exact h
/-- what is told for some of the names -/
def partT (T : Told) (ks : List Str) : Told := fun y => if y ∈ ks then T y else none
theorem partT_snoc {T : Told} {ks : List Str} {x : Str} {q : Pq} (h : T x = some q) : partT T (ks ++ [x]) = setT (partT T ks) x q := by
  funext y
  unfold partT setT
  by_cases e : y = x
  · rw [if_pos (by rw [e]; simp), if_pos e, e, h]
  · rw [if_neg e]
    by_cases m : y ∈ ks
    · rw [if_pos (by simp [m])]; exact (if_pos m).symm
    · rw [if_neg (by simp [m, e])]; exact (if_neg m).symm
theorem partT_all {T : Told} {ks : List Str} (h : ∀ x, x ∈ ks ↔ (T x).isSome = true) : partT T ks = T := by
  funext y
  unfold partT
  by_cases m : y ∈ ks
  · rw [if_pos m]
  · rw [if_neg m]
    cases e : T y with
    | none => rfl
    | some q => exact absurd ((h y).mpr (by rw [e]; rfl)) m
theorem at_strs {ks : List Str} {i : Nat} {x : V} (h : (ks.map V.str)[i]? = some x) : ∃ n, ks[i]? = some n ∧ x = .str n ∧ n ∈ ks := by
  rw [List.getElem?_map] at h
  cases e : ks[i]? with
  | none => rw [e] at h; cases h
  | some n => rw [e] at h; exact ⟨n, rfl, (Option.some.inj h).symm, List.mem_of_getElem? e⟩
theorem nodup_take {ks : List Str} (h : ks.Nodup) {i : Nat} {x : Str} (e : ks[i]? = some x) : x ∉ ks.take i := fun m => by
  obtain ⟨j, hj, ej⟩ := List.mem_iff_getElem.mp m
  rw [List.length_take] at hj
  have hi := (List.getElem?_eq_some_iff.mp e).1
  have e1 : ks[j]? = some x := by
    rw [List.getElem_take] at ej
    rw [List.getElem?_eq_getElem (by omega), ej]
  have := (List.getElem?_inj (by omega : i < ks.length) h).mp (e.trans e1.symm)
  omega
theorem hu2_of {A : Around} {k : Nat} (h : Room k A) : A.units + 2 < cLine := by have := h.units; omega
end RR
set_option maxHeartbeats 4000000
namespace RR
open PySem PySem.Spec PyProof.Rows L2 LamX
/-! ### how what is handed in stays -/
theorem ratAt_keepV {C : Addr} {H H' : Hp} {a : Addr} {t b : Int} (k : KeepV H H' (.ref a)) (r : RatAt C H a t b) : RatAt C H' a t b := let ⟨dx, e⟩ := r; ⟨dx, k _ _ rfl e fun _ z => by cases z⟩
theorem numV_keepV {C : Addr} {H H' : Hp} {v : V} {t b : Int} (k : KeepV H H' v) (h : NumV C H v t b) : NumV C H' v t b := by
  rcases h with ⟨a, rfl, r⟩ | h
  · exact .inl ⟨a, rfl, ratAt_keepV k r⟩
  · exact .inr h
theorem NotNum.keepV' {K : PySem.W.Frag} {C : Addr} {H H' : Hp} {v : V} (k : KeepV H H' v) (h : NotNum K C H v) : NotNum K C H' v := ⟨h.1.keepV k, h.2.keepV k⟩
theorem BadNum.keepV {K : PySem.W.Frag} {C : Addr} {H H' : Hp} {v : V} (k : KeepV H H' v) (h : BadNum K C H v) : BadNum K C H' v := by
  rcases h with ⟨t, b, h, x⟩ | h
  · exact .inl ⟨t, b, numV_keepV k h, x⟩
  · exact .inr (h.keepV' k)
theorem GoodNum.keepV {C : Addr} {H H' : Hp} {v : V} {q : Pq} (k : KeepV H H' v) (h : GoodNum C H v q) : GoodNum C H' v q := ⟨numV_keepV k h.1, h.2⟩
theorem NotName.keepV {K : PySem.W.Frag} {H H' : Hp} {v : V} (k : KeepV H H' v) (h : NotName K H v) : NotName K H' v := by
  rcases h with h | ⟨t, ty, kt⟩
  · exact .inl h
  · exact .inr ⟨t, tyX_keepV k ty, kt⟩
/-! ### numbers, names drawn -/
theorem gd_abs (t b : Int) : gd (if t < 0 then -t else t) b = gd t b := by
  unfold gd
  split
  · rw [Int.natAbs_neg]
  · rfl
theorem gv_abs {t b : Int} (l : Low t b) (st0 : Sm 100 t) (sb0 : Sm 100 b) : GV (if t < 0 then -t else t, b) := by
  have st : Sm 200 t := sm_mono st0 (by decide)
  have sb : Sm 200 b := sm_mono sb0 (by decide)
  refine ⟨?_, ⟨l.1, (gd_abs t b).trans l.2⟩, ?_, sb⟩
  · show 0 ≤ if t < 0 then -t else t
    split <;> omega
  · show Sm 200 (if t < 0 then -t else t)
    split
    · show (-t).natAbs < _
      rw [Int.natAbs_neg]; exact st
    · exact st
theorem gv_one {q : Pq} (h : GV q) : GV (q.1, 1) := ⟨h.1, low_one _, h.2.2.1, sm_1 (by decide)⟩
def spNumber (C : Addr) : Sp := fun vs H Q _ => ∃ p c ns a g, vs = [.ref p] ∧ PenAt H p c ns a g ∧ a ≤ 98000 ∧
  ∀ r pq w q a' g' H', H' p = some (pen c a' g') → Keep p H H' → H' r = some (.tup [.ref pq, w]) → Pr H' pq q.1 q.2 → GoodNum C H' w q → w ≠ .ref p → a ≤ a' → a' ≤ a + 7 → Q (.ref r) H'
def spOddNum (K : PySem.W.Frag) (C : Addr) : Sp := fun vs H Q _ => ∃ p c ns a g, vs = [.ref p] ∧ PenAt H p c ns a g ∧ a ≤ 98000 ∧
  ∀ v a' g' H', H' p = some (pen c a' g') → Keep p H H' → BadNum K C H' v → v ≠ .ref p → a ≤ a' → a' ≤ a + 1 → Q v H'
def FlatOr (v : V) : Prop := flatB v = true ∨ ∃ c, v = .ref c
def spOddName (K : PySem.W.Frag) : Sp := fun vs H Q _ => ∃ p c ns a g, vs = [.ref p] ∧ PenAt H p c ns a g ∧ a ≤ 98000 ∧
  ∀ v a' g' H', H' p = some (pen c a' g') → Keep p H H' → NotName K H' v → FlatOr v → v ≠ .ref p → a ≤ a' → a' ≤ a + 1 → Q v H'
def spWords : Sp := fun vs H Q _ => ∃ p c ns a g, vs = [.ref p, .int 5] ∧ PenAt H p c ns a g ∧ a ≤ 98000 ∧
  ∀ l ws a' g' H', H' p = some (pen c a' g') → Keep p H H' → WAt H' l ws → l ≠ p → a ≤ a' → a' ≤ a + 5 → Q (.ref l) H'
/-! ### what 'heard' makes of a lambda -/
def TTn (BN BV NV : Addr) : (XK → Hp → VK → Prop) → Hp → VK → Prop := fun tl H Q => ∀ H0, Same H H0 → ∃ (E' : XK) (Q' : VK), tl E' H0 Q' ∧
  (∀ v H1, Q' v H1 → ∀ q H2, Same H1 H2 → H2 q = some (.lst [v]) → Q (.ref q) H2) ∧
  (∀ cls d H1, E' cls d H1 → ∃ dd x, d = some dd ∧ H1 dd = some (.xd [(("name" : Str), x)]) ∧
    ((cls = .ref BN ∧ ∀ q H2, Same H1 H2 → H2 q = some (.tup [.str "name", x]) → Q (.ref q) H2) ∨ (cls = .ref BV ∧ ∀ q H2, Same H1 H2 → H2 q = some (.tup [.str "value", x]) → Q (.ref q) H2) ∨ (cls = .ref NV ∧ ∀ q H2, Same H1 H2 → H2 q = some (.tup [.str "none", x]) → Q (.ref q) H2)))
theorem heardV {BN BV NV : Addr} {tl : (XK → Hp → VK → Prop)} {H : Hp} {Q : VK} (h : ∀ H0, Same H H0 → tl E0 H0 (fun v H1 => ∀ q H2, Same H1 H2 → H2 q = some (.lst [v]) → Q (.ref q) H2)) : TTn BN BV NV tl H Q :=
  fun H0 s0 => ⟨_, _, h H0 s0, fun _ _ z => z, fun _ _ _ z => z.elim⟩
/-- the wish that B comes with the name x -/
def wName (B : Addr) (x : V) (H0 : Hp) : XK := fun cls d H' => cls = .ref B ∧ ∃ dd, d = some dd ∧ Same H0 H' ∧ H' dd = some (.xd [(("name" : Str), x)])
theorem wName_bad {B : Addr} {x : V} {H0 : Hp} : BadN B x H0 (wName B x H0) := fun d H' s e => ⟨rfl, d, rfl, s, e⟩
theorem heardN {BN BV NV : Addr} {x : V} {tl : (XK → Hp → VK → Prop)} {H : Hp} {Q : VK} (h : ∀ H0, Same H H0 → tl (wName BN x H0) H0 (fun _ _ => False)) (k : ∀ q H2, Same H H2 → H2 q = some (.tup [.str "name", x]) → Q (.ref q) H2) : TTn BN BV NV tl H Q :=
  fun H0 s0 => ⟨_, _, h H0 s0, fun _ _ z => z.elim, fun _ _ _ ⟨a, dd, e, s1, e1⟩ => ⟨dd, x, e, e1, .inl ⟨a, fun q H2 s e => k q H2 (s0.trans (s1.trans s)) e⟩⟩⟩
theorem heardB {BN BV NV : Addr} {x : V} {tl : (XK → Hp → VK → Prop)} {H : Hp} {Q : VK} (h : ∀ H0, Same H H0 → tl (wName BV x H0) H0 (fun _ _ => False)) (k : ∀ q H2, Same H H2 → H2 q = some (.tup [.str "value", x]) → Q (.ref q) H2) : TTn BN BV NV tl H Q :=
  fun H0 s0 => ⟨_, _, h H0 s0, fun _ _ z => z.elim, fun _ _ _ ⟨a, dd, e, s1, e1⟩ => ⟨dd, x, e, e1, .inr (.inl ⟨a, fun q H2 s e => k q H2 (s0.trans (s1.trans s)) e⟩)⟩⟩
theorem heardG {BN BV NV : Addr} {x : V} {tl : (XK → Hp → VK → Prop)} {H : Hp} {Q : VK} (h : ∀ H0, Same H H0 → tl (wName NV x H0) H0 (fun _ _ => False)) (k : ∀ q H2, Same H H2 → H2 q = some (.tup [.str "none", x]) → Q (.ref q) H2) : TTn BN BV NV tl H Q :=
  fun H0 s0 => ⟨_, _, h H0 s0, fun _ _ z => z.elim, fun _ _ _ ⟨a, dd, e, s1, e1⟩ => ⟨dd, x, e, e1, .inr (.inr ⟨a, fun q H2 s e => k q H2 (s0.trans (s1.trans s)) e⟩)⟩⟩
/-! ### the law's deeds -/
def spKeeps (CV C : Addr) (TB : List (Addr × Str)) : Sp := fun vs H Q _ => ∃ h d t r ks ks' T Rs, vs = [.ref h, .ref t, r] ∧ ValAt CV C H h d ks T Rs ∧ DctAt H t ks' T ∧ RestP H r Rs ∧ Tabs TB H ∧ ∀ H', ExtN H H' → Tabs TB H' → Q (.bl true) H'
def spDeed (CV C : Addr) (TB : List (Addr × Str)) (k : Int) (f : Addr → Addr → Addr → Addr → List V) : Sp := fun vs H Q _ => ∃ p c ns h b l ws a, vs = f p h b l ∧ StP CV C TB H p c ns h b l ws a ∧ a ≤ 90000 ∧ ∀ a' H', StP CV C TB H' p c ns h b l ws a' → a ≤ a' → a' ≤ a + k → Q (.bl true) H'
def spToldR (CV C : Addr) (TB : List (Addr × Str)) : Sp := spDeed CV C TB 12 fun p h b l => [.ref p, .ref h, .ref b, .ref l]
def spReadR (CV C : Addr) (TB : List (Addr × Str)) : Sp := spDeed CV C TB 2 fun p h b l => [.ref p, .ref h, .ref b, .ref l]
def spRestR (CV C : Addr) (TB : List (Addr × Str)) : Sp := fun vs H Q _ => ∃ p c ns h b l ws a, vs = [.ref p, .ref h, .ref b] ∧ StP CV C TB H p c ns h b l ws a ∧ a ≤ 90000 ∧ ∀ a' H', StP CV C TB H' p c ns h b l ws a' → a ≤ a' → a' ≤ a + 12 → Q (.bl true) H'
theorem spDeed.mk {CV C : Addr} {TB : List (Addr × Str)} {k : Int} {f : Addr → Addr → Addr → Addr → List V} {vs : List V} {H : Hp} {Q : VK} {E : XK} : spDeed CV C TB k f vs H Q E → spDeed CV C TB k f vs H Q E := id
def rLenQ (K : PySem.W.Frag) : List V → Hp → VK → Prop := fun xs H Q => ∃ p ys, xs = [.ref p] ∧ (SqL K H p ys ∨ SqT K H p ys) ∧ Q (.int ys.length) H
theorem map_erase {α β : Type} (f : α → β) : ∀ (xs : List α) (k : Nat), (xs.map f).eraseIdx k = (xs.eraseIdx k).map f
  | [], _ => rfl
  | _ :: _, 0 => rfl
  | x :: xs, k + 1 => by
    rw [List.map_cons, List.eraseIdx_cons_succ, List.eraseIdx_cons_succ, List.map_cons, map_erase f xs k]
theorem dp_strsT {K : PySem.W.Frag} {H : Hp} : ∀ xs : List Str, DpAll K H (xs.map V.str) (xs.map PyData.str)
  | [] => .nil
  | x :: r => .cons (.str x) (dp_strsT r)
theorem words_pl : ∀ x ∈ wordsL, ∀ c ∈ x.cps.toList, c < 16 ^ 8 := by decide +kernel
theorem shows_wordsA : ∀ {xs : List Str}, (∀ x ∈ xs, x ∈ wordsL) → ShowsAll 82 0 (xs.map PyData.str)
  | [], _ => .nil
  | x :: r, h => .cons (shows_str (words_pl x (h x List.mem_cons_self)) (by have := words_ln x (h x List.mem_cons_self); omega)) (shows_wordsA fun y hy => h y (List.mem_cons_of_mem _ hy))
theorem shows_words {xs : List Str} (h : ∀ x ∈ xs, x ∈ wordsL) (l : xs.length ≤ 12) : Shows 2000 20 (.tuple (xs.map PyData.str)) := by
  obtain ⟨a, b, c, e, f⟩ := (shows_wordsA h).sh
  refine ⟨a, b, ?_, ?_⟩
  · show PyData.depthAll _ + 1 ≤ 20
    omega
  · show (tupleText (PyData.shownAll _)).length ≤ 2000
    have := tupleText_len_le (PyData.shownAll (xs.map PyData.str))
    rw [f] at this
    rw [List.length_map] at this e
    omega
theorem nil_dp {K : PySem.W.Frag} {H : Hp} {a : Addr} (h : H a = some (.lst [])) : Dp K H (.ref a) (.list []) := .lst (SqL.of h) .nil
end RR
set_option maxHeartbeats 4000000
namespace RR
open PySem PySem.Spec PyProof.Rows L2 LamX
abbrev kT : Key := Sum.inr ("told" : Str)
abbrev kR : Key := Sum.inr ("rest" : Str)
abbrev boxL (x y : V) : List (Key × V) := [(kT, x), (kR, y)]
theorem ne_TR : kT ≠ kR := by decide +kernel
theorem valV_told (x y : V) : valV (boxL x y) kT = some x := valV_pos rfl
theorem valV_rest (x y : V) : valV (boxL x y) kR = some y := (valV_neg ne_TR).trans (valV_pos rfl)
theorem put_told (x y z : V) : putK (boxL x y) kT z = boxL z y := by
  unfold putK
  rw [if_pos (by rw [valV_any, valV_told]; rfl)]
  show [if kT = kT then (kT, z) else (kT, x), if kR = kT then (kR, z) else (kR, y)] = [(kT, z), (kR, y)]
  rw [if_pos rfl, if_neg (Ne.symm ne_TR)]
theorem put_rest (x y z : V) : putK (boxL x y) kR z = boxL x z := by
  unfold putK
  rw [if_pos (by rw [valV_any, valV_rest]; rfl)]
  show [if kT = kR then (kT, z) else (kT, x), if kR = kR then (kR, z) else (kR, y)] = [(kT, x), (kR, z)]
  rw [if_neg ne_TR, if_pos rfl]
theorem get_told {H : Hp} {b : Addr} {x y : V} (e : H b = some (.dK (boxL x y))) : DGet H b (.str "told") (some x) := by rw [← valV_told x y]; exact DGet.k (k := kT) e
theorem get_rest {H : Hp} {b : Addr} {x y : V} (e : H b = some (.dK (boxL x y))) : DGet H b (.str "rest") (some y) := by rw [← valV_rest x y]; exact DGet.k (k := kR) e
theorem setp_told {H : Hp} {b : Addr} {x y z : V} (e : H b = some (.dK (boxL x y))) : DPut H b (.str "told") z (upd H b (.dK (boxL z y))) := by rw [← put_told x y z]; exact DPut.k (k := kT) e (by show 2 < sizeLine; decide)
theorem setp_rest {H : Hp} {b : Addr} {x y z : V} (e : H b = some (.dK (boxL x y))) : DPut H b (.str "rest") z (upd H b (.dK (boxL x z))) := by rw [← put_rest x y z]; exact DPut.k (k := kR) e (by show 2 < sizeLine; decide)
theorem or_ref {H : Hp} {o : Option V} {T : Option Pq} {u : V} {Rs : Option Pq} (hr : RestP H u Rs) (h : match T with | none => o = none | some q => ∃ v, o = some v ∧ PrV H v q) : RestP H (o.getD u) (T.or Rs) := by
  cases T with
  | none =>
    have h : o = none := h
    rw [h]; exact hr
  | some q =>
    obtain ⟨v, e, p⟩ := h
    rw [e]; exact p
/-- tables stay where another object changes -/
theorem tabs_keepG {T : List (Addr × Str)} {H H' : Hp} {x : Addr} {o : HO} (t : Tabs T H) (e : H x = some o) (n1 : ∀ ps, o ≠ .tbl ps) (n2 : ∀ c q, o ≠ CodeO c q) (k : Keep x H H') : Tabs T H' := by
  intro r hr
  obtain ⟨ps, h1, h2, h3⟩ := t r hr
  refine ⟨ps, k _ _ h1 (fun z => by rw [z, e] at h1; exact n1 _ (Option.some.inj h1)), h2, fun pos cv hc => ?_⟩
  obtain ⟨c, e1, e2⟩ := h3 pos cv hc
  exact ⟨c, e1, k _ _ e2 (fun z => by rw [z, e] at e2; exact n2 _ _ (Option.some.inj e2))⟩
theorem sst_of {CV C : Addr} {TB : List (Addr × Str)} {H H' : Hp} {p c : Addr} {ns : List Int} {h b l : Addr} {ws : List Str} {a g : Int} {d t : Addr} {ks ks' : List Str} {T : Told} {Rs : Option Pq} {x : Addr} {o : HO}
    (W : PenAt H p c ns a g) (B : BoxAt H b t ks' T Rs) (L : WAt H l ws) (tb : Tabs TB H) (e : H x = some o) (n0 : ∀ xs, o ≠ .lst xs) (n1 : ∀ xs, o ≠ .tup xs) (n2 : ∀ ps, o ≠ .tbl ps) (n3 : ∀ c q, o ≠ CodeO c q) (k : Keep x H H') (nbx : b ≠ x) (ntx : t ≠ x)
    (Va : ValAt CV C H' h d ks T Rs) (nb : b ≠ d) (nt : t ≠ d) (nl : l ≠ p) : SSt CV C TB H' p c ns h b l ws a g d t ks ks' T Rs :=
  ⟨⟨k _ _ W.pn (fun z => by have := W.pn; rw [z, e] at this; exact n0 _ (Option.some.inj this)), k _ _ W.cs (fun z => by have := W.cs; rw [z, e] at this; exact n0 _ (Option.some.inj this)), W.la, W.lb, W.ln⟩, Va,
    B.held e n1 k nbx ntx, ⟨k _ _ L.1 (fun z => by have := L.1; rw [z, e] at this; exact n0 _ (Option.some.inj this)), L.2⟩, nb, nt, nl, tabs_keepG tb e n2 n3 k⟩
theorem shaped_w : ∀ x ∈ wordsL, SeqAt.shaped (.tuple [.str "none", .str x]) = true := by decide +kernel
theorem eqv_w : ∀ x ∈ wordsL, PyData.eqv (.tuple [.str "none", .str x]) (.tuple [.str "none", .str x]) = true := fun x hx => SeqAt.eqv_refl _ (by
  have := shaped_w x hx
  exact SeqAt.canLay_of_shaped this)
theorem flat2 {s : Str} {v : V} (f : FlatOr v) : ∀ z ∈ [V.str s, v], flatB z = true ∨ ∃ c, z = .ref c := by
  intro z hz
  rcases List.mem_cons.mp hz with rfl | hz
  · exact .inl rfl
  · rw [List.mem_singleton.mp hz]; exact f
theorem nn_list {K : PySem.W.Frag} {H : Hp} {a : Addr} (h : H a = some (.lst [.non])) : Dp K H (.ref a) (.list [.none]) := .lst (SqL.of h) (.cons .non .nil)
theorem eqv_nn : PyData.eqv (.list [.none]) (.list [.none]) = true := by decide +kernel
theorem NotName.ext {K : PySem.W.Frag} {H H' : Hp} {v : V} (h : NotName K H v) (s : ExtN H H') : NotName K H' v := h.keepV (.ext s)
theorem cut_strs (ws : List Str) (lo hi : Option Int) : ∃ ws' : List Str, cutV (ws.map V.str) lo hi = ws'.map V.str ∧ (∀ x ∈ ws', x ∈ ws) ∧ ws'.length ≤ ws.length := by
  refine ⟨(ws.drop (HT.sIx (ws.map V.str).length 0 lo)).take (HT.sIx (ws.map V.str).length (ws.map V.str).length hi - HT.sIx (ws.map V.str).length 0 lo), ?_, fun x h => List.mem_of_mem_drop (List.mem_of_mem_take h), ?_⟩
  · unfold cutV
    rw [List.map_take, List.map_drop]
  · rw [List.length_take, List.length_drop]
    omega
theorem merge_box (x y : V) : mergeK [] [(kT, x), (kR, y)] = boxL x y := by
  show putK (putK [] kT x) kR y = _
  rw [putK_new (kvs := []) x rfl]
  show putK [(kT, x)] kR y = _
  rw [putK_new]
  · rfl
  · exact (valV_neg ne_TR).trans rfl
/-- the first numbers, drawn so far -/
def FirstAt (C : Addr) (H : Hp) (f : Addr) (fk : List Str) (T : Told) : Prop := ∃ kvs, H f = some (.dK kvs) ∧ Dct (GoodNum C H) kvs fk T
structure FSt (C : Addr) (TB : List (Addr × Str)) (H : Hp) (p c : Addr) (ns : List Int) (b l f t : Addr) (ws : List Str) (a g : Int) (fk ks' : List Str) (T : Told) : Prop where
  W : PenAt H p c ns a g
  B : BoxAt H b t ks' T none
  Fa : FirstAt C H f fk T
  gt : GT T
  L : WAt H l ws
  nbf : b ≠ f
  ntf : t ≠ f
  nl : l ≠ p
  tb : Tabs TB H
theorem numV_stay {C : Addr} {H H' : Hp} {v : V} {q : Pq} (s : StayR C H H') (h : GoodNum C H v q) : GoodNum C H' v q := by
  refine ⟨?_, h.2⟩
  rcases h.1 with ⟨a, e, dx, r⟩ | h
  · exact .inl ⟨a, e, dx, s _ _ _ _ r⟩
  · exact .inr h
theorem FirstAt.move {C : Addr} {H H' : Hp} {f : Addr} {fk : List Str} {T : Told} (F : FirstAt C H f fk T) (s : StayR C H H') (k : ∀ kvs, H f = some (.dK kvs) → H' f = some (.dK kvs)) : FirstAt C H' f fk T :=
  let ⟨kvs, e, D⟩ := F; ⟨kvs, k _ e, D.imp fun _ _ => numV_stay s⟩
section
variable {C : Addr} {TB : List (Addr × Str)} {H H' : Hp} {p c : Addr} {ns : List Int} {b l f t : Addr} {ws : List Str} {a g a' g' : Int} {fk ks' : List Str} {T : Told}
theorem FSt.same (S : FSt C TB H p c ns b l f t ws a g fk ks' T) (s : Same H H') : FSt C TB H' p c ns b l f t ws a g fk ks' T :=
  ⟨S.W.keep s, S.B.ext (.of s), S.Fa.move (.same s) fun _ e => s _ _ e, S.gt, ⟨s _ _ S.L.1, S.L.2⟩, S.nbf, S.ntf, S.nl, Tabs.same S.tb s⟩
theorem FSt.pen (S : FSt C TB H p c ns b l f t ws a g fk ks' T) (h0 : a ≤ a') (h1 : a' ≤ 100000) (hp : H' p = some (pen c a' g')) (k : Keep p H H') : FSt C TB H' p c ns b l f t ws a' g' fk ks' T :=
  ⟨S.W.next h0 h1 hp k, S.B.pen S.W.pn k, S.Fa.move (.keep k S.W.pn fun _ _ _ z => by cases z) (fun _ e => k _ _ e (ne_of e S.W.pn fun z => by cases z)), S.gt, ⟨k _ _ S.L.1 S.nl, S.L.2⟩, S.nbf, S.ntf, S.nl, tabs_keep S.tb S.W.pn k⟩
end
end RR
set_option maxHeartbeats 4000000
namespace RR
open PySem PySem.Spec PyProof.Rows L2 LamX
/-! ### == of dicts whose values bring their own == -/
theorem paired_at {α β : Type} {F : α → β → Prop} : ∀ {xs : List α} {ys : List β} {i : Nat} {x : α}, Paired F xs ys → xs[i]? = some x → ∃ y, ys[i]? = some y ∧ F x y
  | _, _, 0, _, .cons r _, e => by cases e; exact ⟨_, rfl, r⟩
  | _, _, i + 1, _, .cons _ t, e => by
    obtain ⟨y, e1, e2⟩ := paired_at (i := i) t (by simpa using e)
    exact ⟨y, by simpa using e1, e2⟩
section
variable {X : Cx} {pins : List (Addr × Obj)} {σ : L2.St} {H : Hp} {a b : Addr} {oa ob : Obj} {ka kb : List (Key × V)}
theorem samePairs_own {s : Shared} {A : Around} {nm : String} {eq : Nat → Bool} {Q : Bool → Shared → Prop} (I0 : L2.Inv X pins σ H s) (ea : H a = some (.frz oa (.dK ka))) (eb : H b = some (.frz ob (.dK kb)))
    (step : ∀ (i : Nat) k v y, ka[i]? = some (k, v) → valV kb k = some y → ∀ (s : Shared) (u w : Value) (R : Bool → Shared → Prop), L2.Inv X pins σ H s → L2.RelV v u → L2.RelV y w → (∀ s', L2.Inv X pins σ H s' → R (eq i) s') → wpAny (model X.prog X.w) A (eqBool u w) R X.xe s)
    (lack : ∀ (i : Nat) k v, ka[i]? = some (k, v) → valV kb k = none → eq i = false)
    (fin : ∀ s', L2.Inv X pins σ H s' → Q (decide (ka.length = kb.length) && (List.range ka.length).all eq) s') : wpAny (model X.prog X.w) A (Builtin.Dict.samePairs nm a b) Q X.xe s := by
  obtain ⟨sysA, -, -, rows, ep, va, dataA, sizeA, kva, oA, es1, g1, -, d1, keysA, pairsA, -⟩ := I0.frzK ea
  obtain ⟨sysB, -, -, cols, ep', vb, dataB, sizeB, kvb, oB, es2, g2, -, d2, keysB, pairsB, -⟩ := I0.frzK eb
  have getA : ∀ {t : Shared}, L2.Inv X pins σ H t → t.heap.get? a = some oa := fun J => (J.frzK ea).2.1
  have getB : ∀ {t : Shared}, L2.Inv X pins σ H t → t.heap.get? b = some ob := fun J => (J.frzK eb).2.1
  have eA : es1 = rows := by
    have := getA I0
    rw [this] at g1
    cases g1
    rw [dataA] at d1
    cases d1
    rfl
  have eB : es2 = cols := by
    have := getB I0
    rw [this] at g2
    cases g2
    rw [dataB] at d2
    cases d2
    rfl
  subst eA eB
  have found : ∀ k, findBy (mixKind X.prog X.w).is es2 k = valueAt vb k := fun k => by
    rw [← pairsB.find k]
    clear sizeB pairsB keysB dataB d2
    obtain ⟨l⟩ := es2
    simp [findBy]
  unfold Builtin.Dict.samePairs Builtin.Dict.showsAll
  rw [if_neg (by rw [sysA]; exact Bool.false_ne_true), if_neg (by rw [sysB]; exact Bool.false_ne_true)]
  refine wpAny_bind (wpAny_pure (wpAny_bind (wpAny_pure ?_)))
  refine wpAny_bind (wpAny_dictEntries (getA I0) dataA ?_)
  dsimp only
  refine wpAny_bind (wpAny_dictEntries (getB I0) dataB ?_)
  by_cases same : es1.size = es2.size
  case neg =>
    rw [if_pos (by simpa using same)]
    have := fin s I0
    rw [decide_eq_false (by rw [← sizeA, ← sizeB]; exact same), Bool.false_and] at this
    exact wpAny_bind (wpAny_rule (wpAny_pure this))
  rw [decide_eq_true (by rw [← sizeA, ← sizeB]; exact same), Bool.true_and, ← sizeA] at fin
  rw [if_neg (by rw [same]; simp)]
  refine wpAny_bind (wpAny_dictEpoch (getA I0) dataA ?_)
  refine wpAny_bind ?_
  rw [Std.Legacy.Range.forIn_eq_forIn_range']
  simp only [Std.Legacy.Range.size, Nat.sub_zero, Nat.add_sub_cancel, Nat.div_one]
  have cut : ∀ i, i < es1.size → eq i = false → (List.range es1.size).all eq = false := fun i hi e => by
    rw [List.all_eq_false]
    exact ⟨i, List.mem_range.mpr hi, by rw [e]; decide⟩
  refine wpAny_forIn_list _ (fun rest q t => L2.Inv X pins σ H t ∧ q = (none, ()) ∧ ∃ i, rest = List.range' i (es1.size - i) ∧ i ≤ es1.size ∧ ∀ j, j < i → eq j = true) _ ?_ ?_ _ _ ⟨I0, rfl, 0, by simp, Nat.zero_le _, fun j hj => absurd hj (Nat.not_lt_zero j)⟩
  · rintro n rest q t ⟨J, rfl, i, hr, hi, before⟩
    have less : i < es1.size := by
      rcases Nat.lt_or_ge i es1.size with h | h
      · exact h
      · rw [Nat.sub_eq_zero_of_le h] at hr
        cases hr
    have two : n = i ∧ rest = List.range' (i + 1) (es1.size - (i + 1)) := by
      rw [show es1.size - i = (es1.size - (i + 1)) + 1 by omega, List.range'_succ] at hr
      injection hr with h1 h2
      exact ⟨h1, h2⟩
    obtain ⟨rfl, tail⟩ := two
    refine wpAny_bind (wpAny_dictEntries (getA J) dataA ?_)
    rw [Array.getElem?_eq_getElem less]
    have lk : n < ka.length := by rw [← sizeA]; exact less
    obtain ⟨k, v, at_⟩ : ∃ k v, ka[n]? = some (k, v) := ⟨ka[n].1, ka[n].2, by rw [List.getElem?_eq_getElem lk]⟩
    obtain ⟨⟨k2, u⟩, at2, ek, rv⟩ := paired_at kva at_
    have ek : k = k2 := ek
    subst ek
    obtain ⟨isKey, isVal⟩ := pairsA.get? (i := n) (e := es1[n]) (k := k) (v := u) (by rw [Array.getElem?_toList]; exact Array.getElem?_eq_getElem less) at2
    obtain ⟨k', hk', hash⟩ := keysA es1[n] (Array.getElem_mem less)
    rw [(mixKind X.prog X.w).inj _ _ _ hk' isKey] at hash
    show wpAny _ _ (holding [es1[n].key, es1[n].val] _ >>= _) _ _ _
    rw [hash]
    refine wpAny_bind (wpAny_holding (wpAny_bind (wpAny_dictFind_of isKey (getB J) dataB keysB ?_)))
    have rel := kvb.val k
    cases hj : es2.findIdx? fun e => (mixKind X.prog X.w).is k e.key with
    | none =>
      have no : valueAt vb k = none := by rw [← found k, findBy_of_findIdx?, hj]
      rw [no] at rel
      have no2 : valV kb k = none := by
        cases z : valV kb k with
        | none => rfl
        | some y => rw [z] at rel; exact rel.elim
      have z := fin t J
      rw [cut n less (lack n k v at_ no2)] at z
      refine wpAny_pure ?_
      show wpAny _ _ (if (!false) = true then _ else _) _ _ _
      rw [if_pos (by decide)]
      exact wpAny_pure (wpAny_pure z)
    | some j =>
      obtain ⟨jl, -, -⟩ := Array.findIdx?_eq_some_iff_getElem.mp hj
      have yes : valueAt vb k = some es2[j].val := by
        rw [← found k, findBy_of_findIdx?, hj]
        simp [Array.getElem?_eq_getElem jl]
      rw [yes] at rel
      obtain ⟨y, ey, ry⟩ : ∃ y, valV kb k = some y ∧ L2.RelV y es2[j].val := by
        cases z : valV kb k with
        | none => rw [z] at rel; exact rel.elim
        | some y => rw [z] at rel; exact ⟨y, rfl, rel⟩
      refine wpAny_bind (wpAny_dictEntries (getB J) dataB ?_)
      rw [Array.getElem?_eq_getElem jl]
      refine wpAny_holding (step n k v y at_ ey t _ _ _ J (by rw [isVal]; exact rv) ry fun t' J' => ?_)
      cases e : eq n with
      | false =>
        have z := fin t' J'
        rw [cut n less e] at z
        show wpAny _ _ (if (!false) = true then _ else _) _ _ _
        rw [if_pos (by decide)]
        exact wpAny_pure (wpAny_pure z)
      | true =>
        show wpAny _ _ (if (!true) = true then _ else _) _ _ _
        rw [if_neg (by decide)]
        refine wpAny_bind (wpAny_dictEpoch (getA J') dataA ?_)
        rw [if_neg (by simp)]
        refine wpAny_pure ⟨J', rfl, n + 1, tail, less, fun j hj => ?_⟩
        by_cases q : j = n
        · rw [q]; exact e
        · exact before j (by omega)
  · rintro q t ⟨J, rfl, i, hr, hi, before⟩
    have last : i = es1.size := by
      rcases Nat.lt_or_ge i es1.size with h | h
      · rw [show es1.size - i = (es1.size - (i + 1)) + 1 by omega, List.range'_succ] at hr
        cases hr
      · omega
    have z := fin t J
    rw [show (List.range es1.size).all eq = true from List.all_eq_true.mpr fun j hj => before j (by rw [last]; exact List.mem_range.mp hj)] at z
    exact wpAny_pure z
end
theorem valV_of_at : ∀ {kvs : List (Key × V)} {ks : List Str} {i : Nat} {nm : Str} {v : V}, kvs.map (·.1) = ks.map Sum.inr → ks.Nodup → kvs[i]? = some (Sum.inr nm, v) → valV kvs (Sum.inr nm) = some v
  | [], _, _, _, _, _, _, e => by simp at e
  | p :: r, [], _, _, _, h, _, _ => by cases h
  | p :: r, k :: ks, 0, nm, v, h, nd, e => by
    cases e
    exact valV_pos rfl
  | p :: r, k :: ks, i + 1, nm, v, h, nd, e => by
    rw [List.map_cons, List.map_cons] at h
    obtain ⟨h1, h2⟩ := List.cons.inj h
    have e' : r[i]? = some (Sum.inr nm, v) := by simpa using e
    have hm : nm ∈ ks := by
      have := congrArg (fun l => l[i]?) h2
      simp only [List.getElem?_map, e'] at this
      cases q : ks[i]? with
      | none => rw [q] at this; cases this
      | some x =>
        rw [q] at this
        have := Option.some.inj this
        rw [Sum.inr.inj this]
        exact List.mem_of_getElem? q
    rw [valV_neg (by rw [h1]; intro z; exact (List.nodup_cons.mp nd).1 (by rw [Sum.inr.inj z]; exact hm))]
    exact valV_of_at h2 (List.nodup_cons.mp nd).2 e'
/-- two dicts of ratios are equal: the same names, at each the same ratio -/
def eqTold (ks : List Str) (n : Nat) (T T' : Told) : Bool := decide (ks.length = n) && ks.all fun x => decide (T' x = T x)
theorem ratAt_fun {C : Addr} {H : Hp} {a : Addr} {t b u d : Int} (r : RatAt C H a t b) (r' : RatAt C H a u d) : t = u ∧ b = d := by
  obtain ⟨dx, e⟩ := r
  obtain ⟨dy, e'⟩ := r'
  rw [e] at e'
  injection e' with e'
  injection e' with _ _ e'
  unfold rfs at e'
  simp at e'
  exact e'
theorem ratAt_lock {C : Addr} {H : Hp} {d : Addr} {od : Obj} {kvs : List (Key × V)} {a : Addr} {t b : Int} (e : H d = some (.dK kvs)) (r : RatAt C H a t b) : RatAt C (upd H d (.frz od (.dK kvs))) a t b := by
  obtain ⟨dx, h⟩ := r
  exact ⟨dx, hp_mut h (ne_of h e fun z => by cases z)⟩
section
variable {X : Cx} {C f : Addr} {n : Nat}
/-- == of two instances of C, further in -/
theorem eqBool_own {A : Around} {pins : List (Addr × Obj)} {σ : L2.St} {H : Hp} {s : Shared} {x y : Addr} {t b u d : Int} {R : Bool → Shared → Prop} (hs : PySem.W.findIn X.K (.ref C) (cmpInfo .Eq).2.1 = some (some (.ref f))) (hf : PySem.W.isFn X.K (.ref f) = true)
    (nf : PySem.W.notFirst X.K C (.ref C) = true) (F : FnR X.prog X.w X.K X.mg X.base CX0 n f (spEqA X.K C)) (hr : Room n A) (fr : A.frames = X.A.frames) (I : L2.Inv X pins σ H s) (rx : RatAt C H x t b) (ry : RatAt C H y u d) (k : ∀ s', L2.Inv X pins σ H s' → R (decide (t = u ∧ b = d)) s') :
    wpAny (model X.prog X.w) A (eqBool (.ref x) (.ref y)) R X.xe s := by
  by_cases xy : x = y
  · subst xy
    obtain ⟨e1, e2⟩ := ratAt_fun rx ry
    have := k s I
    rw [decide_eq_true ⟨e1, e2⟩] at this
    exact SeqAt.EqAt.same (A := A) (s := s) (.ref x) X.prog X.w X.xe _ this
  · refine GQ.eqBool_refG xy ?_
    obtain ⟨dx, ex⟩ := id rx
    obtain ⟨dy, ey⟩ := id ry
    obtain ⟨ox, J⟩ := inst_of I ex
    obtain ⟨oy, J'⟩ := inst_of I ey
    obtain ⟨m, hF⟩ := I.fr
    refine PySem.W.cmp_K (op := .Eq) (tb := .ref C) hr.units0 hF I.ok.mod.kin J J'.type nf hs hf ?_
    have e0 : Env0 X.prog X.w X.K X.mg X.base A X.stack s H := by
      have e := I.env0
      exact ⟨by rw [fr]; exact e.frames, e.mod, e.bs, e.bsz, e.funs, e.frf, e.hok, e.bare⟩
    refine wpAny_mono (run_in (us := [.ref x, .ref y]) (vs := [.ref x, .ref y]) (Q := fun v H' => v = .bl (decide (t = u ∧ b = d)) ∧ H' = H) (E := E0) F hr e0 pass0 I (.cons rfl (.cons rfl .nil)) ⟨x, t, b, _, rfl, rx, .inl ⟨y, u, d, rfl, ry, rfl, rfl⟩⟩) (fun v s' z => ?_) fun _ _ z => z
    obtain ⟨v', H', I', rv, rfl, rfl⟩ := z
    cases rv
    exact ⟨_, rfl, k s' I'⟩
/-- x == y of two such dicts -/
def rEqDO (C : Addr) : R2 := fun x y H Q => ∃ a b ka kb ks ks' T T', x = .ref a ∧ y = .ref b ∧ a ≠ b ∧ H a = some (.dK ka) ∧ H b = some (.dK kb) ∧ Dct (RV C H) ka ks T ∧ Dct (RV C H) kb ks' T' ∧ Q (.bl (eqTold ks ks'.length T T')) H
theorem op_eqDO (hs : PySem.W.findIn X.K (.ref C) (cmpInfo .Eq).2.1 = some (some (.ref f))) (hf : PySem.W.isFn X.K (.ref f) = true)
    (nf : PySem.W.notFirst X.K C (.ref C) = true) (F : FnR X.prog X.w X.K X.mg X.base CX0 n f (spEqA X.K C)) (hr : Room (n + 1) X.A) : OpR X (compareOp .Eq) (rEqDO C) := by
  intro pins s σ H x y v u Q I rx ry h
  obtain ⟨a, b, ka, kb, ks, ks', T, T', rfl, rfl, ab, ea, eb, D, D', q⟩ := h
  obtain rfl : v = Value.ref a := rx
  obtain rfl : u = Value.ref b := ry
  have la := D.len
  have lb := D'.len
  obtain ⟨-, sysA, va, -, da⟩ := (show ObjOk X.prog X.w H s.heap a (.dK ka) from I.hok a _ ea)
  obtain ⟨-, sysB, vb, -, db⟩ := (show ObjOk X.prog X.w H s.heap b (.dK kb) from I.hok b _ eb)
  obtain ⟨oa, I1⟩ := I.lock ea trivial
  have eb1 : upd H a (.frz oa (.dK ka)) b = some (.dK kb) := by rw [upd_ne ab.symm]; exact eb
  have ea1 : upd H a (.frz oa (.dK ka)) a = some (.frz oa (.dK ka)) := upd_same
  obtain ⟨ob, I2⟩ := I1.lock eb1 trivial
  have ea2 : upd (upd H a (.frz oa (.dK ka))) b (.frz ob (.dK kb)) a = some (.frz oa (.dK ka)) := by rw [upd_ne ab]; exact ea1
  have eb2 : upd (upd H a (.frz oa (.dK ka))) b (.frz ob (.dK kb)) b = some (.frz ob (.dK kb)) := upd_same
  have n1 := I.nofrz ea trivial
  have n2 := I1.nofrz eb1 trivial
  have stay : ∀ {c : Addr} {t d : Int}, RatAt C H c t d → RatAt C (upd (upd H a (.frz oa (.dK ka))) b (.frz ob (.dK kb))) c t d := fun r => ratAt_lock eb1 (ratAt_lock ea r)
  have back : ∀ {s' : Shared}, L2.Inv X pins σ (upd (upd H a (.frz oa (.dK ka))) b (.frz ob (.dK kb))) s' → L2.Inv X pins σ H s' := fun J => by
    have J1 := J.unlock eb2 n2
    rw [upd_upd] at J1
    have J2 := J1.unlock (show upd (upd H a (.frz oa (.dK ka))) b (.dK kb) a = some (.frz oa (.dK ka)) by rw [upd_ne ab]; exact ea1) n1
    have e : upd (upd (upd H a (.frz oa (.dK ka))) b (.dK kb)) a (.dK ka) = H := by
      funext c
      by_cases ca : c = a
      · rw [ca, upd_same, ea]
      · rw [upd_ne ca]
        by_cases cb : c = b
        · rw [cb, upd_same, eb]
        · rw [upd_ne cb, upd_ne ca]
    rw [e] at J2
    exact J2
  have key : ∀ (i : Nat) k v, ka[i]? = some (k, v) → ∃ nm q, ks[i]? = some nm ∧ k = Sum.inr nm ∧ T nm = some q ∧ RV C H v q := fun i k v e => by
    have e2 := congrArg (fun l => l[i]?) D.keys
    simp only [List.getElem?_map, e] at e2
    cases en : ks[i]? with
    | none => rw [en] at e2; cases e2
    | some nm =>
      rw [en] at e2
      obtain rfl : k = Sum.inr nm := Option.some.inj e2
      obtain ⟨q, eq⟩ := Option.isSome_iff_exists.mp ((D.dom nm).mp (List.mem_of_getElem? en))
      obtain ⟨v', ev, r⟩ := D.val nm q eq
      have un : valV ka (Sum.inr nm) = some v := valV_of_at D.keys D.nd e
      rw [un] at ev
      cases ev
      exact ⟨nm, q, rfl, rfl, eq, r⟩
  refine PySem.wpAny_richCompare_same_room (op := .Eq) da.typeIs db.typeIs PySem.F.slot_dict_eq (wpAny_call_entry PySem.F.slot_dict_eq da.typeIs PySem.F.entry_dict_eq ?_ (PySem.F.args_dict_eq_2 _ _)) hr.units0
  show wpAny _ _ (Builtin.Dict.dictSlotArgs "__eq__" ⟨[.ref a, .ref b], []⟩ >>= _) _ _ s
  refine wpAny_bind ?_
  unfold Builtin.Dict.dictSlotArgs
  refine wpAny_bind (wpAny_notOrdered_dict da.typeIs ?_)
  show wpAny _ _ (pure (Value.ref a, Value.ref b)) _ _ s
  refine wpAny_pure (wpAny_bind (wpAny_isInstance (T := "dict") db.typeIs PySem.F.sub_dict_dict ?_))
  simp only [Bool.not_true, Bool.false_eq_true, if_false]
  refine wpAny_bind (wpAny_pure (wpAny_bind (wpAny_pure (wpAny_bind ?_))))
  refine samePairs_own (eq := fun i => match ks[i]? with | some nm => decide (T' nm = T nm) | none => false) I2 ea2 eb2 (fun i k v y e1 e2 s u w R J ru rw_ kk => ?_) (fun i k v e1 e2 => ?_) (fun s' J => ?_)
  · obtain ⟨nm, q1, en, rfl, et, c1, rfl, r1⟩ := key i k v e1
    cases et' : T' nm with
    | none => rw [D'.none et'] at e2; cases e2
    | some q2 =>
      obtain ⟨y', ey, c2, rfl, r2⟩ := D'.val nm q2 et'
      rw [e2] at ey
      cases ey
      obtain rfl : u = .ref c1 := ru
      obtain rfl : w = .ref c2 := rw_
      refine eqBool_own hs hf nf F (hr.in1) rfl J (stay r1) (stay r2) fun s' J' => ?_
      have z := kk s' J'
      simp only [en, et, et'] at z
      have e : decide ((some q2 : Option Pq) = some q1) = decide (q1.1 = q2.1 ∧ q1.2 = q2.2) := by
        by_cases h : q1 = q2
        · subst h; simp
        · rw [decide_eq_false (fun z => h (Option.some.inj z).symm), decide_eq_false (fun z => h (Prod.ext z.1 z.2))]
      rw [e] at z
      exact z
  · obtain ⟨nm, q1, en, rfl, et, -⟩ := key i k v e1
    simp only [en, et]
    cases et' : T' nm with
    | none => rfl
    | some q2 =>
      obtain ⟨y', ey, -⟩ := D'.val nm q2 et'
      rw [e2] at ey
      cases ey
  · have eqs : (decide (ka.length = kb.length) && (List.range ka.length).all fun i => match ks[i]? with | some nm => decide (T' nm = T nm) | none => false) = eqTold ks ks'.length T T' := by
      unfold eqTold
      rw [la, lb]
      congr 1
      rw [Bool.eq_iff_iff, List.all_eq_true, List.all_eq_true]
      refine ⟨fun h x hx => ?_, fun h i hi => ?_⟩
      · obtain ⟨i, hi, e⟩ := List.mem_iff_getElem.mp hx
        have := h i (List.mem_range.mpr hi)
        rw [List.getElem?_eq_getElem hi, e] at this
        exact this
      · have hi := List.mem_range.mp hi
        rw [List.getElem?_eq_getElem hi]
        exact h _ (List.getElem_mem hi)
    rw [eqs]
    refine wpAny_pure ⟨_, rfl, (fun z => nomatch z), ?_⟩
    exact ⟨_, _, back J, (by cases eqTold ks ks'.length T T' <;> rfl), q⟩
end
end RR
set_option maxHeartbeats 4000000
namespace RR
open PySem PySem.Spec PyProof.Rows L2 LamX
/-! ### repr of a dict of names whose values are data or ratios -/
def ItemV (C : Addr) (H : Hp) (v : V) (t : Str) : Prop :=
  (v = .non ∧ t = "None") ∨ (∃ b, v = .bl b ∧ t = (if b then "True" else "False")) ∨ (∃ n : Int, v = .int n ∧ Sm 1900 n ∧ t = Str.ofString (toString n)) ∨ (∃ x, v = .str x ∧ (reprText x).length ≤ 100 ∧ t = reprText x) ∨
  (∃ e, v = .ref e ∧ H e = some (.lst [.int 1]) ∧ t = listText ["1"]) ∨ (∃ e, v = .ref e ∧ H e = some (.tup [.int 1, .int 2]) ∧ t = tupleText ["1", "2"]) ∨ (∃ e, v = .ref e ∧ H e = some (.dK []) ∧ t = dictText []) ∨
  (∃ c q b, v = .ref c ∧ RatAt C H c q b ∧ Sm 1900 q ∧ Sm 1900 b ∧ t = reprR q b)
theorem ItemV.same {C : Addr} {H H' : Hp} {v : V} {t : Str} (h : ItemV C H v t) (s : Same H H') : ItemV C H' v t := by
  rcases h with h | h | h | h | ⟨e, h1, h2, h3⟩ | ⟨e, h1, h2, h3⟩ | ⟨e, h1, h2, h3⟩ | ⟨c, q, b, h1, h2, h3⟩
  · exact .inl h
  · exact .inr (.inl h)
  · exact .inr (.inr (.inl h))
  · exact .inr (.inr (.inr (.inl h)))
  · exact .inr (.inr (.inr (.inr (.inl ⟨e, h1, s _ _ h2, h3⟩))))
  · exact .inr (.inr (.inr (.inr (.inr (.inl ⟨e, h1, s _ _ h2, h3⟩)))))
  · exact .inr (.inr (.inr (.inr (.inr (.inr (.inl ⟨e, h1, s _ _ h2, h3⟩))))))
  · exact .inr (.inr (.inr (.inr (.inr (.inr (.inr ⟨c, q, b, h1, h2.same s, h3⟩))))))
theorem ItemV.keepV {C : Addr} {H H' : Hp} {v : V} {t : Str} (h : ItemV C H v t) (k : KeepV H H' v) : ItemV C H' v t := by
  rcases h with h | h | h | h | ⟨e, rfl, h2, h3⟩ | ⟨e, rfl, h2, h3⟩ | ⟨e, rfl, h2, h3⟩ | ⟨c, q, b, rfl, h2, h3⟩
  · exact .inl h
  · exact .inr (.inl h)
  · exact .inr (.inr (.inl h))
  · exact .inr (.inr (.inr (.inl h)))
  · exact .inr (.inr (.inr (.inr (.inl ⟨e, rfl, k _ _ rfl h2 (fun _ z => by cases z), h3⟩))))
  · exact .inr (.inr (.inr (.inr (.inr (.inl ⟨e, rfl, k _ _ rfl h2 (fun _ z => by cases z), h3⟩)))))
  · exact .inr (.inr (.inr (.inr (.inr (.inr (.inl ⟨e, rfl, k _ _ rfl h2 (fun _ z => by cases z), h3⟩))))))
  · exact .inr (.inr (.inr (.inr (.inr (.inr (.inr ⟨c, q, b, rfl, ratAt_keepV k h2, h3⟩))))))
/-- the piece that an entry gives -/
def PieceV (C : Addr) (H : Hp) (kv : Key × V) (p : Str) : Prop := ∃ x t, kv.1 = Sum.inr x ∧ (reprText x).length ≤ 100 ∧ ItemV C H kv.2 t ∧ p = reprText x ++ ": " ++ t
theorem reprD_depth {A : Around} {args : Args} : (A.under (.builtin "dict.__repr__" args)).depth = A.depth + 1 := by
  first | rfl | simp [Around.under, Code.weight, Code.isCreation, Code.isGuard, Code.isCaller, Code.frames, Code.isFrame, guardIds]
theorem reprD_frames {A : Around} {args : Args} : (A.under (.builtin "dict.__repr__" args)).frames = A.frames := by
  first | rfl | simp [Around.under, Code.envs, Code.isFrame, pushEnvs] | (cases h : A.frames <;> simp [Around.under, Code.envs, Code.isFrame, pushEnvs, h])
theorem reprD_handled {A : Around} {args : Args} : (A.under (.builtin "dict.__repr__" args)).handled = A.handled := by
  first | rfl | simp [Around.under]
theorem Room.reprD {k : Nat} {A : Around} (r : Room (k + 1) A) (args : Args) : Room k (A.under (.builtin "dict.__repr__" args)) :=
  ⟨by rw [reprD_handled]; exact r.hd, by have := r.dp; rw [reprD_depth]; omega, by have := r.un; rw [units_under_dict_repr]; omega⟩
section
variable {X : Cx} {C f : Addr} {n : Nat}
theorem item_repr {A : Around} {pins : List (Addr × Obj)} {σ : L2.St} {H : Hp} {s : Shared} {a : Addr} {oa : Obj} {kvs : List (Key × V)} {v : V} {u : Value} {t : Str} {place : Nat} {R : Str → Shared → Prop} {id : String} {rest : List Value}
    (hs : PySem.W.findIn X.K (.ref C) "__repr__" = some (some (.ref f))) (hf : PySem.W.isFn X.K (.ref f) = true) (F : FnR X.prog X.w X.K X.mg X.base CX0 n f (spStr C reprR)) (hr : Room n A) (fr : A.frames = X.A.frames)
    (hg : A.guards = some [.builtin id ⟨.ref a :: rest, []⟩]) (ea : H a = some (.dK kvs)) (full : kvs ≠ []) (I : L2.Inv X pins σ (upd H a (.frz oa (.dK kvs))) s) (rv : L2.RelV v u) (it : ItemV C H v t) (fits : place + t.length ≤ sizeLine)
    (k : ∀ s', L2.Inv X pins σ (upd H a (.frz oa (.dK kvs))) s' → R t s') : wpAny (model X.prog X.w) A (pyReprUnder place u) R X.xe s := by
  have un : A.units + 1 < cLine := by have := hr.units; omega
  have data : ∀ {as : List Addr} {u : Value}, (∀ b ∈ as, b ≠ a) → ReprK X.prog X.w as s.heap 1 u t → wpAny (model X.prog X.w) A (pyReprUnder place u) R X.xe s := fun na h =>
    h place fits A _ _ s R hg (fun b hb => (Clear.nil b).cons (fun z => na b hb z.symm)) un (fun _ _ z => z) fun h' tk kp => k _ (I.kept (t' := tk) kp)
  have leaf : ∀ {u : Value}, ReprIs X.prog X.w u t → wpAny (model X.prog X.w) A (pyReprUnder place u) R X.xe s := fun h => data (as := []) (fun _ z => nomatch z) (.of_is h [] _ _)
  have there : ∀ {e : Addr} {o : HO}, H e = some o → o ≠ .dK kvs → e ≠ a ∧ upd H a (.frz oa (.dK kvs)) e = some o := fun {e o} z q => by
    have ne : e ≠ a := ne_of z ea q
    exact ⟨ne, by rw [upd_ne ne]; exact z⟩
  have one : ∀ (i : Int) (tk : Tok), Sm 1900 i → ReprIs X.prog X.w (.int i tk) (Str.ofString (toString i)) := fun i tk si => ReprIs.int tk (log_of si)
  rcases it with ⟨rfl, rfl⟩ | ⟨b, rfl, rfl⟩ | ⟨i, rfl, si, rfl⟩ | ⟨x, rfl, lx, rfl⟩ | ⟨e, rfl, he, rfl⟩ | ⟨e, rfl, he, rfl⟩ | ⟨e, rfl, he, rfl⟩ | ⟨c, q, b, rfl, rc, sq, sb, rfl⟩
  · cases rv
    exact leaf .none
  · cases rv
    have := leaf (u := .bool b)
    exact leaf (by cases b <;> exact .bool _)
  · obtain ⟨tk, rfl⟩ := rv
    exact leaf (one i tk si)
  · obtain ⟨tk, rfl⟩ := rv
    exact leaf (.str x tk (by rw [sizeLine_eq]; omega))
  · obtain rfl : u = .ref e := rv
    obtain ⟨ne, e1⟩ := there he (by intro z; cases z)
    obtain ⟨its, m, r, g, -⟩ := I.lst e1
    cases r with
    | cons r0 r1 =>
      cases r1
      obtain ⟨tk, rfl⟩ := r0
      refine data (as := [e]) (fun b hb => by rw [List.mem_singleton.mp hb]; exact ne) (ReprK.list (d := 0) g rfl rfl (by simp) rfl fun i y hy => ?_)
      cases i with
      | zero =>
        cases hy
        exact ⟨_, rfl, .of_is (one 1 tk (by decide)) _ _ _⟩
      | succ i => simp at hy
  · obtain rfl : u = .ref e := rv
    obtain ⟨ne, e1⟩ := there he (by intro z; cases z)
    obtain ⟨-, its, r, o, g, oc, m, od⟩ := I.hok e _ e1
    cases r with
    | cons r0 r1 =>
      cases r1 with
      | cons r2 r3 =>
        cases r3
        obtain ⟨t1, rfl⟩ := r0
        obtain ⟨t2, rfl⟩ := r2
        exact data (as := [e]) (fun b hb => by rw [List.mem_singleton.mp hb]; exact ne) (ReprK.tuple (d := 0) g oc od (by simp) (.cons (.of_is (one 1 t1 (by decide)) _ _ _) (.cons (.of_is (one 2 t2 (by decide)) _ _ _) .nil)))
  · obtain rfl : u = .ref e := rv
    obtain ⟨ne, e1⟩ := there he (by intro z; exact full (HO.dK.inj z).symm)
    obtain ⟨-, sys, vs, r, o, es, ep, g, oc, od, -, pr, -⟩ := I.hok e _ e1
    cases r
    have z : es.toList = [] := List.eq_nil_of_length_eq_zero pr.length
    exact data (as := [e]) (fun b hb => by rw [List.mem_singleton.mp hb]; exact ne) (ReprK.dict (d := 0) g oc.1 od sys (by simp) (by rw [z]; exact .nil))
  · obtain rfl : u = .ref c := rv
    have rc' := ratAt_lock (od := oa) ea rc
    have rc2 := rc'
    obtain ⟨dx, e1⟩ := rc2
    obtain ⟨od, J⟩ := inst_of I e1
    obtain ⟨m, hF⟩ := I.fr
    refine under_own (by omega) hr.units0 hF I.ok.mod.kin J hs hf ?_
    have e0 : Env0 X.prog X.w X.K X.mg X.base A X.stack s (upd H a (.frz oa (.dK kvs))) := by
      have e := I.env0
      exact ⟨by rw [fr]; exact e.frames, e.mod, e.bs, e.bsz, e.funs, e.frf, e.hok, e.bare⟩
    refine wpAny_mono (run_in (us := [.ref c]) (vs := [.ref c]) (Q := fun v H2 => v = .str (reprR q b) ∧ H2 = upd H a (.frz oa (.dK kvs))) (E := E0) F hr e0 pass0 I (.cons rfl .nil) ⟨c, q, b, rfl, rc', sq, sb, rfl, rfl⟩) (fun v s' z => ?_) fun _ _ z => z
    obtain ⟨x, H2, I2, rx, rfl, rfl⟩ := z
    obtain ⟨k', rfl⟩ := rx
    exact ⟨_, k', rfl, k _ I2⟩
/-- repr(x), x such a dict -/
def rReprD (C : Addr) : List V → Hp → VK → Prop := fun vs H Q => ∃ a kvs ps, vs = [.ref a] ∧ H a = some (.dK kvs) ∧ ps.length = kvs.length ∧ (∀ (i : Nat) kv, kvs[i]? = some kv → ∃ p, ps[i]? = some p ∧ PieceV C H kv p) ∧ (dictText ps).length ≤ sizeLine ∧ Q (.str (dictText ps)) H
theorem call_reprD (hs : PySem.W.findIn X.K (.ref C) "__repr__" = some (some (.ref f))) (hf : PySem.W.isFn X.K (.ref f) = true) (F : FnR X.prog X.w X.K X.mg X.base CX0 n f (spStr C reprR)) (hr : Room (n + 4) X.A) (fr : Free X.A) : CallR X (.builtin "repr") (rReprD C) := by
  intro pins s σ H vs us Q I rv h
  obtain ⟨a, kvs, ps, rfl, ea, hl, pieces, fits, q⟩ := h
  obtain ⟨u, rfl, ru⟩ := rv.one
  obtain rfl : u = .ref a := ru
  obtain ⟨oa, I1⟩ := I.lock ea trivial
  have n1 := I.nofrz ea trivial
  have ea1 : upd H a (.frz oa (.dK kvs)) a = some (.frz oa (.dK kvs)) := upd_same
  have back : ∀ {s' : Shared}, L2.Inv X pins σ (upd H a (.frz oa (.dK kvs))) s' → L2.Inv X pins σ H s' := fun J => by
    have J1 := J.unlock ea1 n1
    rw [upd_upd] at J1
    have e : upd H a (.dK kvs) = H := by
      funext c
      by_cases ca : c = a
      · rw [ca, upd_same, ea]
      · rw [upd_ne ca]
    rw [e] at J1
    exact J1
  obtain ⟨sys, g1, exact_, rows, ep, va, data, size, kva, oA, es1, g2, -, d1, keys, pairs, -⟩ := I1.frzK ea1
  have get : ∀ {t : Shared}, L2.Inv X pins σ (upd H a (.frz oa (.dK kvs))) t → t.heap.get? a = some oa := fun J => (J.frzK ea1).2.1
  have eA : es1 = rows := by
    rw [g1] at g2
    cases g2
    rw [data] at d1
    cases d1
    rfl
  subst eA
  have hlen : ps.length = es1.size := by rw [size]; exact hl
  have small := piled_le_dictText ps
  have ty : s.TypeIs (.ref a) "dict" := ⟨oa, g1, exact_.1⟩
  refine call_repr_slot (T := "dict") (by have := hr.units; omega) ty PySem.F.slot_dict_repr ?_
  refine wpAny_call (codeAny_call_builtin_own (Code.quiet_builtin _ (by decide +kernel)) PySem.F.entry_dict_repr (PySem.F.slot_dict_repr.check _ _ _ _ _ _ _ _ ty (PySem.F.args_dict_repr_1 _) ?_))
  show wpOwn _ _ _ (Builtin.dictReprAt 0 ⟨[.ref a], []⟩) _ _ s
  have hg : (X.A.in1).guards = some [] := fr
  have guarded := isGuard_dict_repr ⟨[.ref a], []⟩
  have hg2 := guards_under_guard guarded hg
  have hu2 := units_under_dict_repr X.A.in1 ⟨[.ref a], []⟩
  have room : Room n (X.A.in1.under (.builtin "dict.__repr__" ⟨[.ref a], []⟩)) := Room.reprD (k := n) (Room.in1 (hr.mono (by omega))) _
  have frames : (X.A.in1.under (.builtin "dict.__repr__" ⟨[.ref a], []⟩)).frames = X.A.frames := reprD_frames
  generalize hA : X.A.in1.under (.builtin "dict.__repr__" ⟨[.ref a], []⟩) = A2 at hg2 hu2 room frames
  unfold Builtin.dictReprAt
  refine wpOwn_bind (wpOwn_of_wpAny ?_)
  rw [hA]
  unfold Builtin.Dict.dictSlotNone
  refine wpAny_bind (wpAny_notOrdered_dict ty ?_)
  show wpAny _ _ (pure (Value.ref a)) _ _ s
  refine wpAny_pure ?_
  rw [dictReprRunning_eq]
  refine wpOwn_bind (wpOwn_stackTailAny hg (dictGuardF_off _) (dictGuardF_pos _) ?_)
  show wpOwn _ _ _ (if (([] : List Code).any fun c => dictGuardF (.ref a) (c, default)) = true then _ else _) _ _ s
  rw [show (([] : List Code).any fun c => dictGuardF (.ref a) (c, default)) = false from rfl]
  refine wpOwn_of_wpAny ?_
  rw [hA]
  show wpAny _ _ (Builtin.Dict.addrOf (.ref a) >>= _) _ _ s
  refine wpAny_bind (wpAny_pure ?_)
  show wpAny _ _ (Builtin.Dict.showsAll a >>= _) _ _ s
  unfold Builtin.Dict.showsAll
  rw [if_neg (by rw [sys]; exact Bool.false_ne_true)]
  refine wpAny_bind (wpAny_pure ?_)
  refine wpAny_bind (wpAny_dictEpoch g1 data ?_)
  refine wpAny_bind (wpAny_dictEntries g1 data ?_)
  refine wpAny_bind ?_
  rw [Std.Legacy.Range.forIn_eq_forIn_range']
  simp only [Std.Legacy.Range.size, Nat.sub_zero, Nat.add_sub_cancel, Nat.div_one]
  refine wpAny_forIn_list _ (fun rest r t => L2.Inv X pins σ (upd H a (.frz oa (.dK kvs))) t ∧ ∃ i, rest = List.range' i (es1.size - i) ∧ i ≤ es1.size ∧ r = (⟨(ps.take i).toArray, piled (ps.take i)⟩ : (Array Str × Nat))) _ ?_ ?_ _ _ ⟨I1, 0, by simp, Nat.zero_le _, by simp [piled]⟩
  · rintro m rest r t ⟨J, i, hrest, hi, rfl⟩
    have less : i < es1.size := by
      rcases Nat.lt_or_ge i es1.size with h | h
      · exact h
      · rw [Nat.sub_eq_zero_of_le h] at hrest
        cases hrest
    have two : m = i ∧ rest = List.range' (i + 1) (es1.size - (i + 1)) := by
      rw [show es1.size - i = (es1.size - (i + 1)) + 1 by omega, List.range'_succ] at hrest
      injection hrest with h1 h2
      exact ⟨h1, h2⟩
    obtain ⟨rfl, tail⟩ := two
    have lk : m < kvs.length := by rw [← size]; exact less
    have at_ : kvs[m]? = some kvs[m] := List.getElem?_eq_getElem lk
    have full : kvs ≠ [] := fun z => by rw [z] at lk; exact Nat.not_lt_zero _ lk
    obtain ⟨⟨k2, w⟩, at2, ek, rw_⟩ := paired_at kva at_
    obtain ⟨p, hp, x, tx, ex, lx, item, ep2⟩ := pieces m _ at_
    have ek : kvs[m].1 = k2 := ek
    rw [ex] at ek
    subst ek
    obtain ⟨isKey, isVal⟩ := pairs.get? (i := m) (e := es1[m]) (k := Sum.inr x) (v := w) (by rw [Array.getElem?_toList]; exact Array.getElem?_eq_getElem less) at2
    obtain ⟨tk, ekey⟩ := L2.relV_key (k := Sum.inr x) isKey
    have len : p.length = (reprText x).length + 2 + tx.length := by
      rw [ep2, strLen_append, strLen_append]; rfl
    have hp1 := piled_take_succ hp
    have hp2 := piled_take_le ps (m + 1)
    rw [len] at hp1
    refine wpAny_bind (wpAny_dictEntries (get J) data ?_)
    rw [Array.getElem?_eq_getElem less]
    dsimp only
    rw [ekey]
    refine wpAny_bind (wpAny_holding (wpAny_bind ?_))
    have keyText := ReprIs.str (prog := X.prog) (w := X.w) x tk (by rw [sizeLine_eq]; omega)
    refine keyText (piled (ps.take m) + 1) (by omega) A2 _ t _ fun tk2 => ?_
    refine wpAny_bind (item_repr hs hf F room frames hg2 ea full (J.tok tk2) (show L2.RelV kvs[m].2 es1[m].val by rw [isVal]; exact rw_) item (by omega) fun t2 J2 => wpAny_pure ?_)
    refine wpAny_bind (wpAny_dictEpoch (get J2) data ?_)
    rw [if_neg (by simp)]
    refine wpAny_pure ⟨J2, m + 1, tail, less, ?_⟩
    have e1 : (ps.take m).toArray.push (reprText x ++ ": " ++ tx) = (ps.take (m + 1)).toArray := by
      rw [List.take_add_one, hp, ep2]
      simp
    have e2 : piled (ps.take m) + ((reprText x).length + tx.length + 4) = piled (ps.take (m + 1)) := by omega
    rw [e1, e2]
  · rintro r t ⟨J, i, hrest, hi, rfl⟩
    have last : i = es1.size := by
      rcases Nat.lt_or_ge i es1.size with h | h
      · rw [show es1.size - i = (es1.size - (i + 1)) + 1 by omega, List.range'_succ] at hrest
        cases hrest
      · omega
    rw [last, ← hlen, List.take_length]
    refine wpAny_bind (wpAny_mkStr (wpAny_pure ?_) (by simpa [dictText] using fits))
    have J' := back (J.tok (t.toks + 1))
    exact ⟨_, _, rfl, V.str (dictText ps), H, J', ⟨_, by simp [dictText]; rfl⟩, q⟩
end
end RR
set_option maxHeartbeats 4000000
namespace RR
open PySem PySem.Spec PyProof.Rows L2 LamX
/-- f'..' of two parts or more, by name -/
def tJoin (ts : List TE) : TE := fun σ H Q => tJs ts Str.empty σ H fun out H1 => Q (.str out) H1
theorem pe_joinedN {X : Cx} {v1 v2 : Expr} {rest : List Expr} {ts : List TE} {pos : Pos} (h : PJ X (v1 :: v2 :: rest) ts) : PE X (.JoinedStr (v1 :: v2 :: rest) pos) (tJoin ts) := pe_joined h
/-! ### Values of what may be wrong -/
def badQ : Pq := (-1, 1)
def GivR (K : PySem.W.Frag) (C : Addr) (H : Hp) (v : V) (q : Pq) : Prop := GoodNum C H v q ∨ (q = badQ ∧ BadNum K C H v)
theorem good_ne {q : Pq} (g : GV q) : q ≠ badQ := fun z => by
  subst z
  have : (0 : Int) ≤ badQ.1 := g.1
  exact absurd this (by decide)
theorem GivR.keepV {K : PySem.W.Frag} {C : Addr} {H H' : Hp} {v : V} {q : Pq} (h : GivR K C H v q) (k : KeepV H H' v) : GivR K C H' v q := h.imp (fun g => g.keepV k) fun b => ⟨b.1, b.2.keepV k⟩
theorem GivR.same {K : PySem.W.Frag} {C : Addr} {H H' : Hp} {v : V} {q : Pq} (h : GivR K C H v q) (s : Same H H') : GivR K C H' v q := h.keepV (.same s)
def oddN (x : Str) : Bool := !isName x
def badAt (T : Told) (x : Str) : Bool := decide (T x = some badQ)
def KeyOk (x : Str) : Prop := x ∈ wordsL ∨ (isName x = false ∧ x.length ≤ 16)
/-- how the making of values ends -/
def Takes (CV C BN BV : Addr) (H : Hp) (x : Addr) (fk : List Str) (T : Told) (Q : VK) (E : XK) : Prop :=
  match (srtS fk).find? oddN with
  | some nm => BadN BN (.str nm) H E
  | none => match (srtS fk).find? (badAt T) with
    | some nm => BadN BV (.str nm) H E
    | none => ∀ d H', Keep x H H' → H d = none → ValAt CV C H' x d (srtS fk) T none → Q .non H'
def spVInitE (K : PySem.W.Frag) (CV C BN BV : Addr) : Sp := fun vs H Q E => ∃ x dx n kvs fk T, vs = [.ref x, n] ∧ H x = some (.ins CV dx []) ∧ ((∃ f, n = .ref f ∧ H f = some (.dK kvs) ∧ Dct (GivR K C H) kvs fk T) ∨ (n = .non ∧ kvs = [] ∧ fk = [] ∧ T = fun _ => none)) ∧
  (∀ y ∈ fk, KeyOk y) ∧ fk.length ≤ 12 ∧ Takes CV C BN BV H x fk T Q E
theorem find_none {p : Str → Bool} {xs : List Str} (h : xs.find? p = none) : ∀ x ∈ xs, p x = false := fun x hx => by
  have := List.find?_eq_none.mp h x hx
  cases e : p x with
  | false => rfl
  | true => exact absurd e this
/-- up to the first one -/
theorem find_first {p : Str → Bool} : ∀ {xs : List Str} {y : Str}, xs.find? p = some y → ∃ i, xs[i]? = some y ∧ p y = true ∧ ∀ (j : Nat) z, j < i → xs[j]? = some z → p z = false
  | [], _, h => nomatch h
  | x :: r, y, h => by
    cases e : p x with
    | true =>
      rw [List.find?_cons_of_pos e] at h
      cases h
      exact ⟨0, rfl, e, fun j z hj => absurd hj (Nat.not_lt_zero j)⟩
    | false =>
      rw [List.find?_cons_of_neg (by rw [e]; decide)] at h
      obtain ⟨i, h1, h2, h3⟩ := find_first h
      refine ⟨i + 1, by simpa using h1, h2, fun j z hj hz => ?_⟩
      cases j with
      | zero => cases hz; exact e
      | succ j => exact h3 j z (by omega) (by simpa using hz)
theorem find_head {p : Str → Bool} : ∀ (xs : List Str), xs.find? p = (xs.filter p).head?
  | [] => rfl
  | x :: r => by
    cases e : p x with
    | true => rw [List.find?_cons_of_pos e, List.filter_cons_of_pos e]; rfl
    | false => rw [List.find?_cons_of_neg (by rw [e]; decide), List.filter_cons_of_neg (by rw [e]; decide)]; exact find_head r
theorem srt_filter (p : Str → Bool) (xs : List Str) : (srtS xs).filter p = srtS (xs.filter p) := by
  refine pw_perm_eq (((srtS_perm xs).filter p).trans (srtS_perm _).symm) ?_ (srtS_pw _)
  exact (srtS_pw xs).filter p
theorem srt_find (p : Str → Bool) {xs ys : List Str} (h : (xs.filter p).Perm ys) : (srtS xs).find? p = (srtS ys).head? := by
  rw [find_head, srt_filter, srtS_congr h]
/-- == of values without a rest -/
def spVEq (K : PySem.W.Frag) (CV C : Addr) : Sp := fun vs H Q _ => ∃ h d ks T y, vs = [.ref h, y] ∧ ValAt CV C H h d ks T none ∧
  ((∃ h' d' ks' T', y = .ref h' ∧ d' ≠ d ∧ ValAt CV C H h' d' ks' T' none ∧ Q (.bl (eqTold ks ks'.length T T')) H) ∨ (∃ t, TyX K H y t ∧ PySem.W.kitOne K t (.ref CV) = some false ∧ Q (.bl false) H))
def spVStr (CV C : Addr) : Sp := fun vs H Q _ => ∃ h d ks T, vs = [.ref h] ∧ ValAt CV C H h d ks T none ∧ ∀ z H', Same H H' → z.length ≤ sizeLine → Q (.str z) H'
theorem le_line16 {n : Nat} (h : n ≤ 16) : n ≤ sizeLine := by rw [sizeLine_eq]; omega
theorem join_len (sep : Str) : ∀ l : List Str, (Txt.join sep l).length ≤ (l.map (·.length)).sum + l.length * sep.length
  | [] => Nat.zero_le _
  | x :: r => by
    unfold Txt.join
    rw [StrLaws.glued_eq_join, len_join_cons, List.length_cons, Nat.succ_mul]
    omega
theorem sum_le {n : Nat} : ∀ l : List Str, (∀ y ∈ l, y.length ≤ n) → (l.map (·.length)).sum ≤ l.length * n
  | [], _ => Nat.zero_le _
  | x :: r, h => by
    have h1 := sum_le r fun y hy => h y (List.mem_cons_of_mem _ hy)
    have h2 := h x List.mem_cons_self
    simp only [List.map_cons, List.sum_cons, List.length_cons, Nat.succ_mul]
    omega
theorem eqTold_true {ks ks' : List Str} {T T' : Told} (hd : ∀ x, x ∈ ks ↔ (T x).isSome = true) (hd' : ∀ x, x ∈ ks' ↔ (T' x).isSome = true) (nd : ks.Nodup) (nd' : ks'.Nodup) (h : ∀ x, T x = T' x) : eqTold ks ks'.length T T' = true := by
  unfold eqTold
  have p : ks.Perm ks' := (List.perm_ext_iff_of_nodup nd nd').mpr fun x => by rw [hd, hd', h]
  rw [decide_eq_true p.length_eq, Bool.true_and, List.all_eq_true]
  exact fun x _ => decide_eq_true (h x).symm
theorem eqTold_len {ks : List Str} {n : Nat} {T T' : Told} (h : ks.length ≠ n) : eqTold ks n T T' = false := by
  unfold eqTold
  rw [decide_eq_false h, Bool.false_and]
theorem eqTold_at {ks : List Str} {n : Nat} {T T' : Told} {x : Str} (hx : x ∈ ks) (h : T' x ≠ T x) : eqTold ks n T T' = false := by
  unfold eqTold
  have : (ks.all fun x => decide (T' x = T x)) = false := List.all_eq_false.mpr ⟨x, hx, by rw [decide_eq_false h]; decide⟩
  rw [this, Bool.and_false]
end RR
set_option maxHeartbeats 4000000
namespace RR
open PySem PySem.Spec PyProof.Rows L2 LamX
/-! ### the dicts that are given -/
def oddL : List Str := ["", "A", "open", "net", "shut", "abcdefghi", "a1", "a b", "ab ", "-"]
theorem odd_bad : ∀ x ∈ oddL, isName x = false ∧ x.length ≤ 16 := by decide +kernel
theorem key_rep : ∀ x ∈ wordsL ++ oddL, (reprText x).length ≤ 100 := by decide +kernel
theorem odd_nw : ∀ x ∈ oddL, x ∉ wordsL := by decide +kernel
theorem words11_nd : words11.Nodup := by decide +kernel
theorem oddL_nd : oddL.Nodup := by decide +kernel
theorem keyOk_of {x : Str} (h : x ∈ wordsL ++ oddL) : KeyOk x := by
  rcases List.mem_append.mp h with h | h
  · exact .inl h
  · exact .inr (odd_bad x h)
def HasI (C : Addr) (H : Hp) (v : V) : Prop := ∃ t, ItemV C H v t ∧ t.length ≤ 5000
theorem HasI.keepV {C : Addr} {H H' : Hp} {v : V} (h : HasI C H v) (k : KeepV H H' v) : HasI C H' v := let ⟨t, a, b⟩ := h; ⟨t, a.keepV k, b⟩
theorem hasI_non {C : Addr} {H : Hp} : HasI C H .non := ⟨_, .inl ⟨rfl, rfl⟩, by decide +kernel⟩
theorem hasI_bl {C : Addr} {H : Hp} (b : Bool) : HasI C H (.bl b) := ⟨_, .inr (.inl ⟨b, rfl, rfl⟩), by cases b <;> decide +kernel⟩
theorem hasI_int {C : Addr} {H : Hp} {n : Int} (s : Sm 1900 n) : HasI C H (.int n) := ⟨_, .inr (.inr (.inl ⟨n, rfl, s, rfl⟩)), by
  have := int_text_length_le (k := 1920) (by decide) (log_of s)
  rw [PySem.ofString_length]
  omega⟩
theorem hasI_str {C : Addr} {H : Hp} {x : Str} (h : (reprText x).length ≤ 100) : HasI C H (.str x) := ⟨_, .inr (.inr (.inr (.inl ⟨x, rfl, h, rfl⟩))), by omega⟩
theorem hasI_lst {C : Addr} {H : Hp} {e : Addr} (h : H e = some (.lst [.int 1])) : HasI C H (.ref e) := ⟨_, .inr (.inr (.inr (.inr (.inl ⟨e, rfl, h, rfl⟩)))), by decide +kernel⟩
theorem hasI_tup {C : Addr} {H : Hp} {e : Addr} (h : H e = some (.tup [.int 1, .int 2])) : HasI C H (.ref e) := ⟨_, .inr (.inr (.inr (.inr (.inr (.inl ⟨e, rfl, h, rfl⟩))))), by decide +kernel⟩
theorem hasI_dK {C : Addr} {H : Hp} {e : Addr} (h : H e = some (.dK [])) : HasI C H (.ref e) := ⟨_, .inr (.inr (.inr (.inr (.inr (.inr (.inl ⟨e, rfl, h, rfl⟩)))))), by decide +kernel⟩
theorem hasI_rat {C : Addr} {H : Hp} {c : Addr} {q b : Int} (r : RatAt C H c q b) (sq : Sm 1900 q) (sb : Sm 1900 b) : HasI C H (.ref c) := ⟨_, .inr (.inr (.inr (.inr (.inr (.inr (.inr ⟨c, q, b, rfl, r, sq, sb, rfl⟩)))))), by
  have L := txt_len sq sb
  unfold reprR
  rw [strLen_append, strLen_append]
  show 6 + _ + 1 ≤ _
  omega⟩
theorem good_item {C : Addr} {H : Hp} {w : V} {q : Pq} (h : GoodNum C H w q) : HasI C H w := by
  obtain ⟨⟨a, rfl, r⟩ | ⟨rfl, _⟩, _, _, st, sb⟩ := h
  · exact hasI_rat r (sm_mono st (by decide)) (sm_mono sb (by decide))
  · exact hasI_int (sm_mono st (by decide))
/-- apart from all that was there and is no ratio -/
def Aside (C : Addr) (H : Hp) (v : V) : Prop := ∀ b o, H b = some o → (∀ dx t d, o ≠ .ins C dx (rfs t d)) → v ≠ .ref b
theorem aside_flat {C : Addr} {H : Hp} {v : V} (h : ∀ b, v ≠ .ref b) : Aside C H v := fun b _ _ _ => h b
theorem aside_new {C : Addr} {H G : Hp} {q : Addr} (s : Same H G) (n : G q = none) : Aside C H (.ref q) := fun b o e _ z => by
  cases z
  rw [s _ _ e] at n
  cases n
theorem aside_rat {C : Addr} {H G : Hp} {a : Addr} {t d : Int} (s : Same H G) (r : RatAt C G a t d) : Aside C H (.ref a) := fun b o e n z => by
  cases z
  obtain ⟨dx, h⟩ := r
  rw [s _ _ e] at h
  exact n _ _ _ (Option.some.inj h)
theorem aside_good {C : Addr} {H G : Hp} {p : Addr} {w : V} {q : Pq} (k : Keep p H G) {xs : List V} (hp : G p = some (.lst xs)) (h : GoodNum C G w q) : Aside C H w := fun b o e n z => by
  obtain ⟨⟨a, rfl, dx, r⟩ | ⟨rfl, _⟩, _⟩ := h
  · cases z
    by_cases y : b = p
    · rw [y, hp] at r; cases r
    · rw [k _ _ e y] at r
      exact n _ _ _ (Option.some.inj r)
  · cases z
/-- a heap in which all but L is as it was -/
def KeepL (L : List Addr) (H H' : Hp) : Prop := ∀ b o, H b = some o → b ∉ L → H' b = some o
theorem KeepL.refl (L : List Addr) (H : Hp) : KeepL L H H := fun _ _ h _ => h
theorem KeepL.trans {L : List Addr} {H H1 H2 : Hp} (a : KeepL L H H1) (b : KeepL L H1 H2) : KeepL L H H2 := fun c o h n => b c o (a c o h n) n
theorem KeepL.of {L : List Addr} {H H' : Hp} (s : Same H H') : KeepL L H H' := fun c o h _ => s c o h
theorem KeepL.keep {L : List Addr} {p : Addr} {H H' : Hp} (k : Keep p H H') (m : p ∈ L) : KeepL L H H' := fun c o h n => k c o h fun z => n (z ▸ m)
theorem KeepL.mut {L : List Addr} {x : Addr} {H : Hp} {o : HO} (m : x ∈ L) : KeepL L H (upd H x o) := fun c o h n => hp_mut h fun z => n (z ▸ m)
theorem KeepL.new {L : List Addr} {x : Addr} {H : Hp} {o : HO} (n : H x = none) : KeepL L H (upd H x o) := KeepL.of (Same.new n)
def Off (L : List Addr) (v : V) : Prop := ∀ a ∈ L, v ≠ .ref a
theorem keepV_off {L : List Addr} {H H' : Hp} {v : V} (k : KeepL L H H') (f : Off L v) : KeepV H H' v := fun a o e h _ => k a o h fun m => f a m e
/-- a value that is given, apart from L -/
def GivO (K : PySem.W.Frag) (C : Addr) (L : List Addr) (H : Hp) (v : V) (q : Pq) : Prop := GivR K C H v q ∧ HasI C H v ∧ Off L v
theorem GivO.keep {K : PySem.W.Frag} {C : Addr} {L : List Addr} {H H' : Hp} {v : V} {q : Pq} (h : GivO K C L H v q) (k : KeepL L H H') : GivO K C L H' v q :=
  ⟨h.1.keepV (keepV_off k h.2.2), h.2.1.keepV (keepV_off k h.2.2), h.2.2⟩
theorem GivO.ext {K : PySem.W.Frag} {C : Addr} {L : List Addr} {H H' : Hp} {v : V} {q : Pq} (h : GivO K C L H v q) (s : ExtN H H') : GivO K C L H' v q :=
  ⟨h.1.keepV (.ext s), h.2.1.keepV (.ext s), h.2.2⟩
theorem GivO.givR {K : PySem.W.Frag} {C : Addr} {L : List Addr} {H : Hp} {v : V} {q : Pq} (h : GivO K C L H v q) : GivR K C H v q := h.1
/-- a pair that is told, apart from L -/
def PrO (L : List Addr) (H : Hp) (v : V) (q : Pq) : Prop := PrV H v q ∧ Off L v ∧ Sm 100 q.1 ∧ Sm 100 q.2
theorem PrO.keep {L : List Addr} {H H' : Hp} {v : V} {q : Pq} (h : PrO L H v q) (k : KeepL L H H') : PrO L H' v q := by
  obtain ⟨⟨a, rfl, r⟩, f, s⟩ := h
  exact ⟨⟨a, rfl, k _ _ r fun m => f a m rfl⟩, f, s⟩
theorem PrO.ext {L : List Addr} {H H' : Hp} {v : V} {q : Pq} (h : PrO L H v q) (s : ExtN H H') : PrO L H' v q := ⟨h.1.stay (.ext s), h.2⟩
theorem off_aside {C : Addr} {L : List Addr} {H : Hp} {v : V} (h : Aside C H v) (n : ∀ a ∈ L, ∃ o, H a = some o ∧ ∀ dx t d, o ≠ .ins C dx (rfs t d)) : Off L v := fun a m => by
  obtain ⟨o, e, z⟩ := n a m
  exact h a o e z
theorem off_tup {L : List Addr} {H : Hp} {r : Addr} {xs : List V} (e : H r = some (.tup xs)) (n : ∀ a ∈ L, ∃ o, H a = some o ∧ ∀ ys, o ≠ .tup ys) : Off L (.ref r) := fun a m z => by
  cases z
  obtain ⟨o, e2, z⟩ := n _ m
  rw [e] at e2
  exact z _ (Option.some.inj e2).symm
/-- its repr -/
theorem all_pieces {α : Type} {R : α → Str → Prop} : ∀ {xs : List α}, (∀ x ∈ xs, ∃ p, R x p) → ∃ ps : List Str, ps.length = xs.length ∧ ∀ (i : Nat) x, xs[i]? = some x → ∃ p, ps[i]? = some p ∧ R x p
  | [], _ => ⟨[], rfl, fun i x h => by simp at h⟩
  | x :: r, h => by
    obtain ⟨p, hp⟩ := h x List.mem_cons_self
    obtain ⟨ps, l, k⟩ := all_pieces (xs := r) fun y hy => h y (List.mem_cons_of_mem _ hy)
    refine ⟨p :: ps, by rw [List.length_cons, List.length_cons, l], fun i y e => ?_⟩
    cases i with
    | zero => cases e; exact ⟨p, rfl, hp⟩
    | succ i => exact k i y (by simpa using e)
theorem Dct.at {R : V → Pq → Prop} {kvs : List (Key × V)} {ks : List Str} {T : Told} (D : Dct R kvs ks T) {i : Nat} {kv : Key × V} (e : kvs[i]? = some kv) : ∃ nm q, ks[i]? = some nm ∧ kv.1 = Sum.inr nm ∧ T nm = some q ∧ R kv.2 q := by
  have e2 := congrArg (fun l => l[i]?) D.keys
  simp only [List.getElem?_map, e] at e2
  cases en : ks[i]? with
  | none => rw [en] at e2; cases e2
  | some nm =>
    rw [en] at e2
    have ek : kv.1 = Sum.inr nm := Option.some.inj e2
    obtain ⟨q, eq⟩ := Option.isSome_iff_exists.mp ((D.dom nm).mp (List.mem_of_getElem? en))
    obtain ⟨v', ev, r⟩ := D.val nm q eq
    have un : valV kvs (Sum.inr nm) = some kv.2 := valV_of_at D.keys D.nd (i := i) (by rw [e, ← ek])
    rw [un] at ev
    cases ev
    exact ⟨nm, q, rfl, ek, eq, r⟩
def RepsD (C : Addr) (H : Hp) (kvs : List (Key × V)) (ps : List Str) : Prop := ps.length = kvs.length ∧ (∀ (i : Nat) kv, kvs[i]? = some kv → ∃ p, ps[i]? = some p ∧ PieceV C H kv p) ∧ (dictText ps).length ≤ sizeLine
theorem giv_reps {K : PySem.W.Frag} {C : Addr} {L : List Addr} {H : Hp} {kvs : List (Key × V)} {fk : List Str} {T : Told} (D : Dct (GivO K C L H) kvs fk T) (hk : ∀ y ∈ fk, y ∈ wordsL ++ oddL) (hl : fk.length ≤ 12) : ∃ ps, RepsD C H kvs ps := by
  obtain ⟨ps, l, k⟩ := all_pieces (xs := kvs) (R := fun kv p => PieceV C H kv p ∧ p.length ≤ 6000) fun kv hkv => by
    obtain ⟨i, hi, e⟩ := List.mem_iff_getElem.mp hkv
    obtain ⟨nm, q, en, ek, _, r⟩ := D.at (i := i) (kv := kv) (by rw [List.getElem?_eq_getElem hi, e])
    obtain ⟨t, it, lt⟩ := r.2.1
    have lk := key_rep nm (hk nm (List.mem_of_getElem? en))
    refine ⟨_, ⟨nm, t, ek, lk, it, rfl⟩, ?_⟩
    rw [strLen_append, strLen_append]
    show _ + 2 + _ ≤ _
    omega
  refine ⟨ps, l, fun i kv e => ?_, ?_⟩
  · obtain ⟨p, h1, h2, _⟩ := k i kv e
    exact ⟨p, h1, h2⟩
  · have h1 := dictText_len_le ps
    have h2 := sum_le (n := 6000) ps fun y hy => by
      obtain ⟨i, hi, e⟩ := List.mem_iff_getElem.mp hy
      have hi2 : i < kvs.length := by rw [← l]; exact hi
      obtain ⟨p, h1, _, h3⟩ := k i _ (List.getElem?_eq_getElem hi2)
      rw [List.getElem?_eq_getElem hi, e] at h1
      cases h1
      exact h3
    have := D.len
    rw [sizeLine_eq]
    omega
theorem RepsD.ext {K : PySem.W.Frag} {C : Addr} {H H' : Hp} {kvs : List (Key × V)} {ps : List Str} (h : RepsD C H kvs ps) (s : ExtN H H') : RepsD C H' kvs ps :=
  ⟨h.1, fun i kv e => let ⟨p, a, x, t, b, c, d, f⟩ := h.2.1 i kv e; ⟨p, a, x, t, b, c, d.keepV (.ext s), f⟩, h.2.2⟩
/-- what is due -/
def DueV (H : Hp) (due : V) (fk : List Str) (T T0 : Told) : Prop :=
  match (srtS fk).find? oddN with
  | some nm => ∃ r, due = .ref r ∧ H r = some (.tup [.str "name", .str nm])
  | none => match (srtS fk).find? (badAt T) with
    | some nm => ∃ r, due = .ref r ∧ H r = some (.tup [.str "value", .str nm])
    | none => due = .non ∧ T = T0
structure GivAt (K : PySem.W.Frag) (C : Addr) (p : Addr) (H : Hp) (f t : Addr) (kvs : List (Key × V)) (fk : List Str) (T : Told) (tk : List Str) (T0 : Told) : Prop where
  hf : H f = some (.dK kvs)
  D : Dct (GivO K C [p, f, t] H) kvs fk T
  kok : ∀ y ∈ fk, y ∈ wordsL ++ oddL
  kl : fk.length ≤ 12
  ht : ∃ kvt, H t = some (.dK kvt) ∧ Dct (PrO [p, f, t] H) kvt tk T0
  ft : f ≠ t
  fp : f ≠ p
  tp : t ≠ p
theorem GivAt.ext {K : PySem.W.Frag} {C : Addr} {p : Addr} {H H' : Hp} {f t : Addr} {kvs : List (Key × V)} {fk : List Str} {T : Told} {tk : List Str} {T0 : Told} (g : GivAt K C p H f t kvs fk T tk T0) (s : ExtN H H') : GivAt K C p H' f t kvs fk T tk T0 := by
  obtain ⟨kvt, et, Dt⟩ := g.ht
  exact ⟨s _ _ g.hf (fun _ z => by cases z), g.D.imp fun _ _ h => h.ext s, g.kok, g.kl, ⟨kvt, s _ _ et (fun _ z => by cases z), Dt.imp fun _ _ h => h.ext s⟩, g.ft, g.fp, g.tp⟩
theorem GivAt.pen {K : PySem.W.Frag} {C : Addr} {p : Addr} {H H' : Hp} {f t : Addr} {kvs : List (Key × V)} {fk : List Str} {T : Told} {tk : List Str} {T0 : Told} (g : GivAt K C p H f t kvs fk T tk T0) (k : Keep p H H') : GivAt K C p H' f t kvs fk T tk T0 := by
  obtain ⟨kvt, et, Dt⟩ := g.ht
  have kl : KeepL [p, f, t] H H' := .keep k List.mem_cons_self
  exact ⟨k _ _ g.hf g.fp, g.D.imp fun _ _ h => h.keep kl, g.kok, g.kl, ⟨kvt, k _ _ et g.tp, Dt.imp fun _ _ h => h.keep kl⟩, g.ft, g.fp, g.tp⟩
theorem DueV.ext {H H' : Hp} {due : V} {fk : List Str} {T T0 : Told} (h : DueV H due fk T T0) (s : ExtN H H') : DueV H' due fk T T0 := by
  unfold DueV at h ⊢
  split
  · rename_i nm e
    rw [e] at h
    obtain ⟨r, e1, e2⟩ := h
    exact ⟨r, e1, s _ _ e2 fun _ z => by cases z⟩
  · rename_i e
    rw [e] at h
    split
    · rename_i nm e3
      rw [e3] at h
      obtain ⟨r, e1, e2⟩ := h
      exact ⟨r, e1, s _ _ e2 fun _ z => by cases z⟩
    · rename_i e3
      rw [e3] at h
      exact h
/-- the dict that is told -/
theorem GivAt.dctAt {K : PySem.W.Frag} {C : Addr} {p : Addr} {H : Hp} {f t : Addr} {kvs : List (Key × V)} {fk : List Str} {T : Told} {tk : List Str} {T0 : Told} (g : GivAt K C p H f t kvs fk T tk T0) : DctAt H t tk T0 := by
  obtain ⟨kvt, et, Dt⟩ := g.ht
  exact ⟨kvt, et, Dt.imp fun _ _ h => h.1⟩
theorem PrO.pair {L : List Addr} {H : Hp} {v : V} {q : Pq} (h : PrO L H v q) : PrV H v q := h.1
/-- what is promised of `given` -/
def spGiven (K : PySem.W.Frag) (C : Addr) : Sp := fun vs H Q _ => ∃ p c ns a g, vs = [.ref p] ∧ PenAt H p c ns a g ∧ a ≤ 90000 ∧
  ∀ r f t kvs fk T tk T0 due a' g' H', H' p = some (pen c a' g') → Keep p H H' → H' r = some (.tup [.ref f, .ref t, due]) → GivAt K C p H' f t kvs fk T tk T0 → DueV H' due fk T T0 → a ≤ a' → a' ≤ a + 100 → Q (.ref r) H'
def spNumberL (C : Addr) : Sp := fun vs H Q _ => ∃ p c ns a g, vs = [.ref p] ∧ PenAt H p c ns a g ∧ a ≤ 98000 ∧
  ∀ r pq w q a' g' H', H' p = some (pen c a' g') → Keep p H H' → H' r = some (.tup [.ref pq, w]) → Pr H' pq q.1 q.2 → GoodNum C H' w q → (Sm 100 q.1 ∧ Sm 100 q.2) → w ≠ .ref p → a ≤ a' → a' ≤ a + 7 → Q (.ref r) H'
def spOddNumI (K : PySem.W.Frag) (C : Addr) : Sp := fun vs H Q _ => ∃ p c ns a g, vs = [.ref p] ∧ PenAt H p c ns a g ∧ a ≤ 98000 ∧
  ∀ v a' g' H', H' p = some (pen c a' g') → Keep p H H' → BadNum K C H' v → HasI C H' v → Aside C H v → a ≤ a' → a' ≤ a + 1 → Q v H'
def spWordsN : Sp := fun vs H Q _ => ∃ p c ns a g n, vs = [.ref p, .int n] ∧ PenAt H p c ns a g ∧ a ≤ 98000 ∧ 0 ≤ n ∧ n ≤ 6 ∧
  ∀ l (ws : List Str) a' g' H', H' p = some (pen c a' g') → Keep p H H' → H l = none → H' l = some (.lst (ws.map V.str)) → (∀ x ∈ ws, x ∈ words11) → ws.Nodup → (ws.length : Int) = n → a ≤ a' → a' ≤ a + n → Q (.ref l) H'
def GV1 (q : Pq) : Prop := GV q ∧ (Sm 100 q.1 ∧ Sm 100 q.2)
theorem gv1_abs {t b : Int} (l : Low t b) (st : Sm 100 t) (sb : Sm 100 b) : GV1 (if t < 0 then -t else t, b) := by
  refine ⟨gv_abs l st sb, ?_, sb⟩
  show Sm 100 (if t < 0 then -t else t)
  split
  · show (-t).natAbs < _
    rw [Int.natAbs_neg]; exact st
  · exact st
theorem gv1_one {q : Pq} (h : GV1 q) : GV1 (q.1, 1) := ⟨gv_one h.1, h.2.1, sm_1 (by decide)⟩
theorem perm_pick : ∀ {xs : List Str} {k : Nat} (h : k < xs.length), (xs[k] :: xs.eraseIdx k).Perm xs
  | [], _, h => absurd h (Nat.not_lt_zero _)
  | x :: r, 0, _ => .refl _
  | x :: r, k + 1, h => (List.Perm.swap x (r[k]'(by simpa using h)) (r.eraseIdx k)).trans ((perm_pick (xs := r) (k := k) (by simpa using h)).cons x)
/-- one taken out of a row of unlike ones -/
theorem nodup_pick {rem acc : List Str} {k : Nat} (h : (acc ++ rem).Nodup) (hk : k < rem.length) : ((acc ++ [rem[k]]) ++ rem.eraseIdx k).Nodup := by
  have e : (rem[k] :: rem.eraseIdx k).Perm rem := perm_pick hk
  have e2 : ((acc ++ [rem[k]]) ++ rem.eraseIdx k).Perm (acc ++ rem) := by
    rw [List.append_assoc]
    exact (List.Perm.append_left acc e)
  exact e2.nodup_iff.mpr h
theorem filter_bad_snoc {T : Told} {ks : List Str} {x : Str} {q : Pq} (h : x ∉ ks) : (ks ++ [x]).filter (badAt (setT T x q)) = ks.filter (badAt T) ++ (if q = badQ then [x] else []) := by
  rw [List.filter_append]
  have e1 : ks.filter (badAt (setT T x q)) = ks.filter (badAt T) := List.filter_congr fun y hy => by
    have : y ≠ x := fun z => h (z ▸ hy)
    unfold badAt setT
    rw [if_neg this]
  have e2 : badAt (setT T x q) x = decide (q = badQ) := by
    unfold badAt setT
    rw [if_pos rfl]
    by_cases z : q = badQ
    · rw [decide_eq_true z, decide_eq_true (by rw [z])]
    · rw [decide_eq_false z, decide_eq_false (fun y => z (Option.some.inj y))]
  rw [e1]
  by_cases z : q = badQ
  · rw [if_pos z, List.filter_cons_of_pos (by rw [e2, decide_eq_true z])]
    rfl
  · rw [if_neg z, List.filter_cons_of_neg (by rw [e2, decide_eq_false z]; decide)]
    rfl
end RR
set_option maxHeartbeats 4000000
namespace RR
open PySem PySem.Spec PyProof.Rows L2 LamX
/-! ### while the dicts are made -/
structure GvSt (K : PySem.W.Frag) (C p c : Addr) (ns : List Int) (f t w : Addr) (HH H : Hp) (fk tk : List Str) (T T0 : Told) (wr : List Str) (a g : Int) : Prop where
  W : PenAt H p c ns a g
  kp : Keep p HH H
  F : ∃ kvs, H f = some (.dK kvs) ∧ Dct (GivO K C [p, f, t, w] H) kvs fk T
  TT : ∃ kvt, H t = some (.dK kvt) ∧ Dct (PrO [p, f, t, w] H) kvt tk T0
  WR : H w = some (.lst (wr.map V.str))
  nn : ∀ b ∈ [f, t, w], HH b = none ∧ b ≠ p ∧ b ≠ c
  ft : f ≠ t
  fw : f ≠ w
  tw : t ≠ w
variable {K : PySem.W.Frag} {C p c : Addr} {ns : List Int} {f t w : Addr} {HH H H' : Hp} {fk tk : List Str} {T T0 : Told} {wr : List Str} {a g a' g' : Int}
theorem GvSt.nf (S : GvSt K C p c ns f t w HH H fk tk T T0 wr a g) : HH f = none ∧ f ≠ p ∧ f ≠ c := S.nn f (by simp)
theorem GvSt.nt (S : GvSt K C p c ns f t w HH H fk tk T T0 wr a g) : HH t = none ∧ t ≠ p ∧ t ≠ c := S.nn t (by simp)
theorem GvSt.nw (S : GvSt K C p c ns f t w HH H fk tk T T0 wr a g) : HH w = none ∧ w ≠ p ∧ w ≠ c := S.nn w (by simp)
theorem GvSt.pen (S : GvSt K C p c ns f t w HH H fk tk T T0 wr a g) (h0 : a ≤ a') (h1 : a' ≤ 100000) (hp : H' p = some (pen c a' g')) (k : Keep p H H') : GvSt K C p c ns f t w HH H' fk tk T T0 wr a' g' := by
  obtain ⟨kvs, ef, D⟩ := S.F
  obtain ⟨kvt, et, Dt⟩ := S.TT
  have kl : KeepL [p, f, t, w] H H' := .keep k List.mem_cons_self
  exact ⟨S.W.next h0 h1 hp k, S.kp.trans k, ⟨kvs, k _ _ ef S.nf.2.1, D.imp fun _ _ h => h.keep kl⟩, ⟨kvt, k _ _ et S.nt.2.1, Dt.imp fun _ _ h => h.keep kl⟩, k _ _ S.WR S.nw.2.1, S.nn, S.ft, S.fw, S.tw⟩
theorem GvSt.same (S : GvSt K C p c ns f t w HH H fk tk T T0 wr a g) (s : Same H H') : GvSt K C p c ns f t w HH H' fk tk T T0 wr a g := by
  obtain ⟨kvs, ef, D⟩ := S.F
  obtain ⟨kvt, et, Dt⟩ := S.TT
  have kl : KeepL [p, f, t, w] H H' := .of s
  exact ⟨S.W.keep s, S.kp.trans (Keep.of s), ⟨kvs, s _ _ ef, D.imp fun _ _ h => h.keep kl⟩, ⟨kvt, s _ _ et, Dt.imp fun _ _ h => h.keep kl⟩, s _ _ S.WR, S.nn, S.ft, S.fw, S.tw⟩
theorem keep_mut {p x : Addr} {HH H : Hp} {o : HO} (k : Keep p HH H) (n : HH x = none) : Keep p HH (upd H x o) := fun b o' e m => hp_mut (k _ _ e m) (ne_of_none e n)
theorem GvSt.addW (S : GvSt K C p c ns f t w HH H fk tk T T0 wr a g) (x : Str) : GvSt K C p c ns f t w HH (upd H w (.lst (wr.map V.str ++ [.str x]))) fk tk T T0 (wr ++ [x]) a g := by
  obtain ⟨kvs, ef, D⟩ := S.F
  obtain ⟨kvt, et, Dt⟩ := S.TT
  have kl : KeepL [p, f, t, w] H (upd H w (.lst (wr.map V.str ++ [.str x]))) := .mut (by simp)
  exact ⟨⟨hp_mut S.W.pn S.nw.2.1.symm, hp_mut S.W.cs S.nw.2.2.symm, S.W.la, S.W.lb, S.W.ln⟩, keep_mut S.kp S.nw.1, ⟨kvs, hp_mut ef S.fw, D.imp fun _ _ h => h.keep kl⟩, ⟨kvt, hp_mut et S.tw, Dt.imp fun _ _ h => h.keep kl⟩,
    by rw [upd_same, List.map_append]; rfl, S.nn, S.ft, S.fw, S.tw⟩
theorem GvSt.putF (S : GvSt K C p c ns f t w HH H fk tk T T0 wr a g) {x : Str} {v : V} {q : Pq} (hx : x ∉ fk) (r : GivO K C [p, f, t, w] H v q) {kvs : List (Key × V)} (e : H f = some (.dK kvs)) :
    GvSt K C p c ns f t w HH (upd H f (.dK (putK kvs (Sum.inr x) v))) (fk ++ [x]) tk (setT T x q) T0 wr a g := by
  obtain ⟨kvs', ef, D⟩ := S.F
  rw [e] at ef
  cases ef
  obtain ⟨kvt, et, Dt⟩ := S.TT
  have kl : KeepL [p, f, t, w] H (upd H f (.dK (putK kvs (Sum.inr x) v))) := .mut (by simp)
  exact ⟨⟨hp_mut S.W.pn S.nf.2.1.symm, hp_mut S.W.cs S.nf.2.2.symm, S.W.la, S.W.lb, S.W.ln⟩, keep_mut S.kp S.nf.1, ⟨_, upd_same, (D.imp fun _ _ h => GivO.keep h kl).putNew (r.keep kl) hx⟩, ⟨kvt, hp_mut et S.ft.symm, Dt.imp fun _ _ h => h.keep kl⟩,
    hp_mut S.WR S.fw.symm, S.nn, S.ft, S.fw, S.tw⟩
theorem GvSt.putT (S : GvSt K C p c ns f t w HH H fk tk T T0 wr a g) {x : Str} {v : V} {q : Pq} (hx : x ∉ tk) (r : PrO [p, f, t, w] H v q) {kvt : List (Key × V)} (e : H t = some (.dK kvt)) :
    GvSt K C p c ns f t w HH (upd H t (.dK (putK kvt (Sum.inr x) v))) fk (tk ++ [x]) T (setT T0 x q) wr a g := by
  obtain ⟨kvs, ef, D⟩ := S.F
  obtain ⟨kvt', et, Dt⟩ := S.TT
  rw [e] at et
  cases et
  have kl : KeepL [p, f, t, w] H (upd H t (.dK (putK kvt (Sum.inr x) v))) := .mut (by simp)
  exact ⟨⟨hp_mut S.W.pn S.nt.2.1.symm, hp_mut S.W.cs S.nt.2.2.symm, S.W.la, S.W.lb, S.W.ln⟩, keep_mut S.kp S.nt.1, ⟨kvs, hp_mut ef S.ft, D.imp fun _ _ h => h.keep kl⟩, ⟨_, upd_same, (Dt.imp fun _ _ h => PrO.keep h kl).putNew (r.keep kl) hx⟩,
    hp_mut S.WR S.tw.symm, S.nn, S.ft, S.fw, S.tw⟩
/-- what is apart from what was there is apart from them -/
theorem GvSt.off (S : GvSt K C p c ns f t w HH H fk tk T T0 wr a g) {v : V} (h : Aside C H v) : Off [p, f, t, w] v := by
  obtain ⟨kvs, ef, D⟩ := S.F
  obtain ⟨kvt, et, Dt⟩ := S.TT
  refine off_aside h fun b hb => ?_
  simp only [List.mem_cons, List.not_mem_nil, or_false] at hb
  rcases hb with rfl | rfl | rfl | rfl
  · exact ⟨_, S.W.pn, fun _ _ _ z => by cases z⟩
  · exact ⟨_, ef, fun _ _ _ z => by cases z⟩
  · exact ⟨_, et, fun _ _ _ z => by cases z⟩
  · exact ⟨_, S.WR, fun _ _ _ z => by cases z⟩
theorem GvSt.offT (S : GvSt K C p c ns f t w HH H fk tk T T0 wr a g) {r : Addr} {xs : List V} (h : H r = some (.tup xs)) : Off [p, f, t, w] (.ref r) := by
  obtain ⟨kvs, ef, D⟩ := S.F
  obtain ⟨kvt, et, Dt⟩ := S.TT
  refine off_tup h fun b hb => ?_
  simp only [List.mem_cons, List.not_mem_nil, or_false] at hb
  rcases hb with rfl | rfl | rfl | rfl
  · exact ⟨_, S.W.pn, fun _ z => by cases z⟩
  · exact ⟨_, ef, fun _ z => by cases z⟩
  · exact ⟨_, et, fun _ z => by cases z⟩
  · exact ⟨_, S.WR, fun _ z => by cases z⟩
theorem GvSt.at (S : GvSt K C p c ns f t w HH H fk tk T T0 wr a g) (kok : ∀ y ∈ fk, y ∈ wordsL ++ oddL) (kl : fk.length ≤ 12) : ∃ kvs, GivAt K C p H f t kvs fk T tk T0 := by
  obtain ⟨kvs, ef, D⟩ := S.F
  obtain ⟨kvt, et, Dt⟩ := S.TT
  have sub : ∀ v, Off [p, f, t, w] v → Off [p, f, t] v := fun v h b hb => h b (by simp only [List.mem_cons, List.not_mem_nil, or_false] at hb ⊢; exact hb.elim .inl fun h => .inr (h.elim .inl fun h => .inr (.inl h)))
  exact ⟨kvs, ef, D.imp fun v q h => ⟨h.1, h.2.1, sub _ h.2.2⟩, kok, kl, ⟨kvt, et, Dt.imp fun v q h => ⟨h.1, sub _ h.2.1, h.2.2⟩⟩, S.ft, S.nf.2.1, S.nt.2.1⟩
theorem GvSt.fresh (S : GvSt K C p c ns f t w HH H fk tk T T0 wr a g) {x : Addr} (n : H x = none) : x ∉ [p, f, t, w] := fun m => by
  simp only [List.mem_cons, List.not_mem_nil, or_false] at m
  obtain ⟨kvs, ef, _⟩ := S.F
  obtain ⟨kvt, et, _⟩ := S.TT
  rcases m with rfl | rfl | rfl | rfl
  · rw [S.W.pn] at n; cases n
  · rw [ef] at n; cases n
  · rw [et] at n; cases n
  · rw [S.WR] at n; cases n
/-- names that are told alike where nothing is wrong -/
def Agree (fk : List Str) (T T0 : Told) : Prop := ∀ x, x ∈ fk → T x ≠ some badQ → T x = T0 x
theorem agree_snoc {fk : List Str} {T T0 : Told} {x : Str} {qv q : Pq} (h : Agree fk T T0) (e : qv = badQ ∨ qv = q) : Agree (fk ++ [x]) (setT T x qv) (setT T0 x q) := by
  intro y hy n
  unfold setT at n ⊢
  by_cases z : y = x
  · rw [if_pos z, if_pos z]
    rw [if_pos z] at n
    rcases e with e | e
    · exact absurd (by rw [e]) n
    · rw [e]
  · rw [if_neg z, if_neg z]
    rw [if_neg z] at n
    rcases List.mem_append.mp hy with hy | hy
    · exact h y hy n
    · exact absurd (List.mem_singleton.mp hy) z
theorem strs_eqv_nil (xs : List Str) : PyData.eqv (.list (xs.map PyData.str)) (.list []) = xs.isEmpty := by
  cases xs with
  | nil => simp only [List.map_nil, PyData.eqv, PyData.eqvAll, List.isEmpty_nil]
  | cons n r => simp only [List.map_cons, PyData.eqv, PyData.eqvAll, List.isEmpty_cons]
theorem head_due {ws : List Str} {p : Str → Bool} {ys : List Str} (h : (ws.filter p).Perm ys) {y : Str} {r : List Str} (e : srtS ys = y :: r) : (srtS ws).find? p = some y := by
  rw [srt_find p h, e]; rfl
theorem none_due {ws : List Str} {p : Str → Bool} (h : ws.filter p = []) : (srtS ws).find? p = none := by
  rw [find_head, srt_filter, h]; unfold srtS; rw [List.mergeSort_nil]; rfl
theorem srt_cons {ys : List Str} (h : ys ≠ []) : ∃ y r, srtS ys = y :: r := by
  cases e : srtS ys with
  | nil => exact absurd (List.eq_nil_of_length_eq_zero (by rw [← srtS_len, e]; rfl)) h
  | cons y r => exact ⟨y, r, rfl⟩
theorem words_noOdd {ws : List Str} (h : ∀ x ∈ ws, x ∈ words11) : ws.filter oddN = [] := List.filter_eq_nil_iff.mpr fun x hx => by
  unfold oddN
  rw [words_ok x (words_in x (h x hx))]
  decide
theorem odds_all {ks : List Str} (h : ∀ x ∈ ks, x ∈ oddL) : ks.filter oddN = ks := List.filter_eq_self.mpr fun x hx => by
  unfold oddN
  rw [(odd_bad x (h x hx)).1]
  rfl
theorem key_lay : ∀ x ∈ wordsL ++ oddL, PyData.canLay0 (.str x) = true := by decide +kernel
theorem lay_keys : ∀ {xs : List Str}, (∀ x ∈ xs, x ∈ wordsL ++ oddL) → PyData.canLayAll0 (xs.map PyData.str) = true
  | [], _ => rfl
  | x :: r, h => by
    show (PyData.canLay0 (.str x) && PyData.canLayAll0 (r.map PyData.str)) = true
    rw [key_lay x (h x List.mem_cons_self), lay_keys fun y hy => h y (List.mem_cons_of_mem _ hy)]
    rfl
theorem dep_strs : ∀ xs : List Str, PyData.depthAll (xs.map PyData.str) = 0
  | [] => rfl
  | x :: r => by show max 0 (PyData.depthAll (r.map PyData.str)) = 0; rw [dep_strs r]; rfl
theorem shaped_keys {xs : List Str} (h : ∀ x ∈ xs, x ∈ wordsL ++ oddL) : SeqAt.shaped (.list (xs.map PyData.str)) = true := by
  unfold SeqAt.shaped
  rw [Bool.and_eq_true]
  refine ⟨lay_keys h, ?_⟩
  show decide (PyData.depthAll (xs.map PyData.str) + 1 ≤ 64) = true
  rw [dep_strs]
  rfl
theorem shaped_nm : ∀ x ∈ wordsL ++ oddL, SeqAt.shaped (.tuple [.str "name", .str x]) = true := by decide +kernel
theorem shaped_vl : ∀ x ∈ wordsL ++ oddL, SeqAt.shaped (.tuple [.str "value", .str x]) = true := by decide +kernel
theorem eqv_nm : ∀ x ∈ wordsL ++ oddL, PyData.eqv (.tuple [.str "name", .str x]) (.tuple [.str "name", .str x]) = true := fun x hx => SeqAt.eqv_refl _ (SeqAt.canLay_of_shaped (shaped_nm x hx))
theorem eqv_vl : ∀ x ∈ wordsL ++ oddL, PyData.eqv (.tuple [.str "value", .str x]) (.tuple [.str "value", .str x]) = true := fun x hx => SeqAt.eqv_refl _ (SeqAt.canLay_of_shaped (shaped_vl x hx))
theorem in_wl {x : Str} (h : x ∈ words11) : x ∈ wordsL ++ oddL := List.mem_append.mpr (.inl (words_in x h))
theorem in_ol {x : Str} (h : x ∈ oddL) : x ∈ wordsL ++ oddL := List.mem_append.mpr (.inr h)
theorem good_one {C : Addr} {H : Hp} : GoodNum C H (.int 1) (1, 1) := ⟨.inr ⟨rfl, rfl⟩, ⟨by decide, ⟨by decide, by decide⟩, by decide, by decide⟩⟩
theorem gv_half : GV (1, 2) := ⟨by decide, ⟨by decide, by decide⟩, by decide, by decide⟩
theorem odd_sh : ∀ x ∈ oddL, x.length ≤ 16 := fun x h => (odd_bad x h).2
end RR
set_option maxHeartbeats 4000000
namespace RR
open PySem PySem.Spec PyProof.Rows L2 LamX
/-! ### dicts made of others -/
def pairsOf (kvs : List (Key × V)) (ks : List Str) : List (Key × V) := ks.map fun nm => (Sum.inr nm, (valV kvs (Sum.inr nm)).getD .non)
theorem dct_mergeA {R : V → Pq → Prop} {kvs : List (Key × V)} {fk : List Str} {T : Told} (D : Dct R kvs fk T) : ∀ (ks dn : List Str) (acc : List (Key × V)), Dct R acc dn (partT T dn) → (∀ x ∈ ks, x ∈ fk) → (dn ++ ks).Nodup → Dct R (mergeK acc (pairsOf kvs ks)) (dn ++ ks) (partT T (dn ++ ks))
  | [], dn, acc, A, _, _ => by
    rw [List.append_nil]; exact A
  | x :: r, dn, acc, A, h, nd => by
    obtain ⟨q, e⟩ := Option.isSome_iff_exists.mp ((D.dom x).mp (h x List.mem_cons_self))
    obtain ⟨v, ev, rv⟩ := D.val x q e
    have hx : x ∉ dn := fun m => by
      have := (List.nodup_append.mp nd).2.2 x m x List.mem_cons_self
      exact this rfl
    have A2 := A.putNew (x := x) (q := q) (v := v) rv hx
    rw [← partT_snoc e] at A2
    have e1 : dn ++ x :: r = (dn ++ [x]) ++ r := by rw [List.append_assoc]; rfl
    have := dct_mergeA D r (dn ++ [x]) _ A2 (fun y hy => h y (List.mem_cons_of_mem _ hy)) (by rw [← e1]; exact nd)
    rw [e1]
    show Dct R (mergeK (putK acc (Sum.inr x) ((valV kvs (Sum.inr x)).getD .non)) (pairsOf kvs r)) _ _
    rw [ev]
    exact this
theorem dct_merge {R : V → Pq → Prop} {kvs : List (Key × V)} {fk ks : List Str} {T : Told} (D : Dct R kvs fk T) (p : ks.Perm fk) : Dct R (mergeK [] (pairsOf kvs ks)) ks T := by
  have h := dct_mergeA D ks [] [] (by
    rw [show partT T [] = fun _ => none from by funext y; exact if_neg (by simp)]
    exact Dct.nil) (fun x hx => p.mem_iff.mp hx) (by rw [List.nil_append]; exact p.nodup_iff.mpr D.nd)
  rw [List.nil_append, partT_all (fun x => p.mem_iff.trans (D.dom x))] at h
  exact h
def delT (T : Told) (x : Str) : Told := fun y => if y = x then none else T y
theorem valV_drop {k j : Key} : ∀ (kvs : List (Key × V)), j ≠ k → valV (dropK kvs k) j = valV kvs j
  | [], _ => rfl
  | p :: r, h => by
    by_cases e : p.1 = k
    · rw [dropK_pos e, valV_drop r h, valV_neg (fun z => h (z.symm.trans e))]
    · rw [dropK_neg e]
      by_cases z : p.1 = j
      · rw [valV_pos z, valV_pos z]
      · rw [valV_neg z, valV_neg z, valV_drop r h]
theorem keys_drop {x : Str} : ∀ {kvs : List (Key × V)} {ks : List Str}, kvs.map (·.1) = ks.map Sum.inr → (dropK kvs (Sum.inr x)).map (·.1) = (ks.filter fun y => decide (y ≠ x)).map Sum.inr
  | [], [], _ => rfl
  | p :: r, k :: ks, h => by
    rw [List.map_cons, List.map_cons] at h
    obtain ⟨h1, h2⟩ := List.cons.inj h
    by_cases e : k = x
    · subst e
      rw [dropK_pos h1, List.filter_cons_of_neg (by simp)]
      exact keys_drop h2
    · rw [dropK_neg (by rw [h1]; intro z; exact e (Sum.inr.inj z)), List.filter_cons_of_pos (by simp [e]), List.map_cons, List.map_cons, keys_drop h2, h1]
theorem Dct.drop {R : V → Pq → Prop} {kvs : List (Key × V)} {ks : List Str} {T : Told} (D : Dct R kvs ks T) (x : Str) : Dct R (dropK kvs (Sum.inr x)) (ks.filter fun y => decide (y ≠ x)) (delT T x) := by
  refine ⟨keys_drop D.keys, D.nd.sublist List.filter_sublist, fun y => ?_, fun y q h => ?_⟩
  · rw [List.mem_filter]
    unfold delT
    by_cases e : y = x
    · rw [if_pos e]; simp [e]
    · rw [if_neg e, D.dom y]; simp [e]
  · unfold delT at h
    by_cases e : y = x
    · rw [if_pos e] at h; cases h
    · rw [if_neg e] at h
      rw [valV_drop kvs (fun z => e (Sum.inr.inj z))]
      exact D.val y q h
theorem filter_len {x : Str} : ∀ {ks : List Str}, ks.Nodup → x ∈ ks → (ks.filter fun y => decide (y ≠ x)).length + 1 = ks.length
  | [], _, h => by cases h
  | k :: r, nd, h => by
    obtain ⟨h1, h2⟩ := List.nodup_cons.mp nd
    by_cases e : k = x
    · subst e
      rw [List.filter_cons_of_neg (by simp), List.filter_eq_self.mpr (fun y hy => by
        simp
        exact fun z => h1 (z ▸ hy))]
      rfl
    · rw [List.filter_cons_of_pos (by simp [e]), List.length_cons, List.length_cons, filter_len h2 ((List.mem_cons.mp h).resolve_left fun z => e z.symm)]
/-- all is well -/
theorem takes_good {CV C BN BV x : Addr} {H : Hp} {fk : List Str} {T : Told} {Q : VK} {E : XK} (n1 : (srtS fk).find? oddN = none) (n2 : (srtS fk).find? (badAt T) = none) (k : ∀ d H', Keep x H H' → H d = none → ValAt CV C H' x d (srtS fk) T none → Q .non H') : Takes CV C BN BV H x fk T Q E := by
  unfold Takes
  rw [n1]
  dsimp only
  rw [n2]
  exact k
theorem takes_name {CV C BN BV x : Addr} {H : Hp} {fk : List Str} {T : Told} {Q : VK} {E : XK} {nm : Str} (n1 : (srtS fk).find? oddN = some nm) (k : BadN BN (.str nm) H E) : Takes CV C BN BV H x fk T Q E := by
  unfold Takes
  rw [n1]
  exact k
theorem takes_value {CV C BN BV x : Addr} {H : Hp} {fk : List Str} {T : Told} {Q : VK} {E : XK} {nm : Str} (n1 : (srtS fk).find? oddN = none) (n2 : (srtS fk).find? (badAt T) = some nm) (k : BadN BV (.str nm) H E) : Takes CV C BN BV H x fk T Q E := by
  unfold Takes
  rw [n1]
  dsimp only
  rw [n2]
  exact k
theorem make_same {H H' : Hp} {x dx : Addr} {o1 o2 : HO} (nx : H x = none) (nd : H dx = none) (k : Keep x (upd (upd H dx o1) x o2) H') : Same H H' := fun b o e =>
  k _ _ (hp_mut (hp_mut e (ne_of_none e nd)) (ne_of_none e nx)) (ne_of_none e nx)
theorem make_sameE {H H' : Hp} {x dx : Addr} {o1 o2 : HO} (nx : H x = none) (nd : H dx = none) (k : Same (upd (upd H dx o1) x o2) H') : Same H H' := fun b o e =>
  k _ _ (hp_mut (hp_mut e (ne_of_none e nd)) (ne_of_none e nx))
theorem make_free {H : Hp} {x dx d : Addr} {o1 o2 : HO} (h : upd (upd H dx o1) x o2 d = none) : H d = none := (no_back (no_back h).2).2
/-- names that are known, numbers that are values -/
structure Fine (K : PySem.W.Frag) (C : Addr) (H : Hp) (kvs : List (Key × V)) (fk : List Str) (T : Told) : Prop where
  D : Dct (GivR K C H) kvs fk T
  nm : ∀ x ∈ fk, x ∈ wordsL
  gv : ∀ x q, T x = some q → GV q
theorem Fine.kok {K : PySem.W.Frag} {C : Addr} {H : Hp} {kvs : List (Key × V)} {fk : List Str} {T : Told} (f : Fine K C H kvs fk T) : ∀ y ∈ fk, KeyOk y := fun y h => .inl (f.nm y h)
theorem Fine.len {K : PySem.W.Frag} {C : Addr} {H : Hp} {kvs : List (Key × V)} {fk : List Str} {T : Told} (f : Fine K C H kvs fk T) : fk.length ≤ 12 := nodup_le (ys := wordsL) f.D.nd f.nm
theorem Fine.n1 {K : PySem.W.Frag} {C : Addr} {H : Hp} {kvs : List (Key × V)} {fk : List Str} {T : Told} (f : Fine K C H kvs fk T) : (srtS fk).find? oddN = none := none_due (List.filter_eq_nil_iff.mpr fun x hx => by
  unfold oddN
  rw [words_ok x (f.nm x hx)]
  decide)
theorem Fine.n2 {K : PySem.W.Frag} {C : Addr} {H : Hp} {kvs : List (Key × V)} {fk : List Str} {T : Told} (f : Fine K C H kvs fk T) : (srtS fk).find? (badAt T) = none := none_due (List.filter_eq_nil_iff.mpr fun x hx => by
  intro z
  have z : T x = some badQ := of_decide_eq_true z
  exact good_ne (f.gv x _ z) rfl)
theorem Fine.same {K : PySem.W.Frag} {C : Addr} {H H' : Hp} {kvs : List (Key × V)} {fk : List Str} {T : Told} (f : Fine K C H kvs fk T) (s : Same H H') : Fine K C H' kvs fk T := ⟨f.D.imp fun _ _ h => h.same s, f.nm, f.gv⟩
/-- the values that the two tell differ -/
theorem diff_len {ks ks' : List Str} {T T' : Told} (h : ks.length ≠ ks'.length) : eqTold (srtS ks) (srtS ks').length T T' = false ∧ eqTold (srtS ks') (srtS ks).length T' T = false :=
  ⟨eqTold_len (by rw [srtS_len, srtS_len]; exact h), eqTold_len (by rw [srtS_len, srtS_len]; exact h.symm)⟩
theorem diff_at {ks ks' : List Str} {T T' : Told} {x : Str} (h1 : x ∈ ks) (h2 : x ∈ ks') (h : T' x ≠ T x) : eqTold (srtS ks) (srtS ks').length T T' = false ∧ eqTold (srtS ks') (srtS ks).length T' T = false :=
  ⟨eqTold_at (srtS_mem.mpr h1) h, eqTold_at (srtS_mem.mpr h2) h.symm⟩
theorem gv_more {t b : Int} (g : GV (t, b)) (st : Sm 100 t) (sb : Sm 100 b) : GV (lo (t + 1) b, lb (t + 1) b) ∧ (lo (t + 1) b, lb (t + 1) b) ≠ (t, b) := by
  have b0 : 0 < b := g.low
  have t0 : 0 ≤ t := g.1
  have s1 : Sm 101 (t + 1) := sm_add st (sm_1 (by decide))
  refine ⟨⟨Int.ediv_nonneg (by omega) (Int.le_of_lt (gd_pos b0)), low_of b0, sm_mono (lo_small s1 b0) (by decide), sm_mono (lb_small (t := t + 1) sb b0) (by decide)⟩, fun z => ?_⟩
  have z1 : lo (t + 1) b = t := congrArg Prod.fst z
  have z2 : lb (t + 1) b = b := congrArg Prod.snd z
  have e1 : lo (t + 1) b * gd (t + 1) b = t + 1 := Int.ediv_mul_cancel (gd_dvd_l _ _)
  have e2 : lb (t + 1) b * gd (t + 1) b = b := Int.ediv_mul_cancel (gd_dvd_r _ _)
  rw [z1] at e1
  rw [z2] at e2
  have e3 : gd (t + 1) b = 1 := by
    have : b * gd (t + 1) b = b * 1 := by rw [e2, Int.mul_one]
    exact Int.eq_of_mul_eq_mul_left (by omega) this
  rw [e3] at e1
  omega
theorem GivAt.fine {K : PySem.W.Frag} {C : Addr} {p : Addr} {H : Hp} {f t : Addr} {kvs : List (Key × V)} {fk : List Str} {T : Told} {tk : List Str} {T0 : Told} (g : GivAt K C p H f t kvs fk T tk T0) (n1 : (srtS fk).find? oddN = none) (n2 : (srtS fk).find? (badAt T) = none) : Fine K C H kvs fk T := by
  refine ⟨g.D.imp fun _ _ h => h.1, fun x hx => ?_, fun x q e => ?_⟩
  · rcases List.mem_append.mp (g.kok x hx) with h | h
    · exact h
    · have := find_none n1 x (srtS_mem.mpr hx)
      unfold oddN at this
      rw [(odd_bad x h).1] at this
      cases this
  · obtain ⟨v, _, h⟩ := g.D.val x q e
    have hx := (g.D.dom x).mpr (by rw [e]; rfl)
    rcases h.1 with h | h
    · exact h.2
    · exact absurd (show badAt T x = true from decide_eq_true (by rw [e, h.1])) (by rw [find_none n2 x (srtS_mem.mpr hx)]; decide)
/-- what is promised of equal_right -/
def spEqualR (K : PySem.W.Frag) (CV C : Addr) : Sp := fun vs H Q _ => ∃ p c ns a g h d f t kvs fk T tk, vs = [.ref p, .ref h, .ref f, .ref t] ∧ PenAt H p c ns a g ∧ a ≤ 95000 ∧ ValAt CV C H h d (srtS fk) T none ∧ GivAt K C p H f t kvs fk T tk T ∧
  (srtS fk).find? oddN = none ∧ (srtS fk).find? (badAt T) = none ∧ ∀ a' g' H', H' p = some (pen c a' g') → Keep p H H' → a ≤ a' → a' ≤ a + 2 → Q (.bl true) H'
theorem mk_fine {K : PySem.W.Frag} {CV C BN BV : Addr} {H : Hp} {x dx b : Addr} {kvs : List (Key × V)} {fk : List Str} {T : Told} {Q : VK} {E : XK} (F : Fine K C H kvs fk T) (hb : H b = some (.dK kvs)) (nx : H x = none) (nd : H dx = none) (ne : dx ≠ x)
    (k : ∀ d H', Same H H' → H d = none → ValAt CV C H' x d (srtS fk) T none → Q .non H') : spVInitE K CV C BN BV [.ref x, .ref b] (upd (upd H dx (.own x)) x (.ins CV dx [])) Q E := by
  have s : Same H (upd (upd H dx (.own x)) x (.ins CV dx [])) := make_sameE nx nd (Same.refl _)
  exact ⟨x, dx, _, kvs, fk, T, rfl, upd_same, .inl ⟨b, rfl, s _ _ hb, (F.same s).D⟩, F.kok, F.len, takes_good F.n1 F.n2 fun d H' kk nn V => k d H' (make_same nx nd kk) (make_free nn) V⟩
theorem eq_self {CV C : Addr} {H H' : Hp} {h d h' d' : Addr} {ks ks' : List Str} {T : Told} {Rs Rs' : Option Pq} (V : ValAt CV C H h d ks T Rs) (V' : ValAt CV C H' h' d' ks' T Rs') : eqTold ks ks'.length T T = true := by
  obtain ⟨_, _, D⟩ := V.dct
  obtain ⟨_, _, D'⟩ := V'.dct
  exact eqTold_true D.dom D'.dom D.nd D'.nd fun _ => rfl
theorem Fine.put {K : PySem.W.Frag} {C : Addr} {H : Hp} {kvs : List (Key × V)} {fk : List Str} {T : Told} (F : Fine K C H kvs fk T) {x : Str} {v : V} {q : Pq} (hx : x ∈ wordsL) (g : GoodNum C H v q) :
    ∃ fk', Fine K C H (putK kvs (Sum.inr x) v) fk' (setT T x q) ∧ x ∈ fk' ∧ (x ∉ fk → fk'.length = fk.length + 1) := by
  have hgv : ∀ y q', setT T x q y = some q' → GV q' := fun y q' h => by
    unfold setT at h
    by_cases e : y = x
    · rw [if_pos e] at h; cases h; exact g.2
    · rw [if_neg e] at h; exact F.gv y q' h
  by_cases hm : x ∈ fk
  · obtain ⟨ks', D'⟩ := F.D.put (x := x) (q := q) (v := v) (.inl g)
    refine ⟨ks', ⟨D', fun y hy => ?_, hgv⟩, (D'.dom x).mpr (by unfold setT; rw [if_pos rfl]; rfl), fun n => absurd hm n⟩
    have := (D'.dom y).mp hy
    unfold setT at this
    by_cases e : y = x
    · rw [e]; exact hx
    · rw [if_neg e] at this
      exact F.nm y ((F.D.dom y).mpr this)
  · refine ⟨fk ++ [x], ⟨F.D.putNew (.inl g) hm, fun y hy => ?_, hgv⟩, by simp, fun _ => by simp⟩
    rcases List.mem_append.mp hy with h | h
    · exact F.nm y h
    · rw [List.mem_singleton.mp h]; exact hx
theorem Fine.del {K : PySem.W.Frag} {C : Addr} {H : Hp} {kvs : List (Key × V)} {fk : List Str} {T : Told} (F : Fine K C H kvs fk T) (x : Str) : Fine K C H (dropK kvs (Sum.inr x)) (fk.filter fun y => decide (y ≠ x)) (delT T x) :=
  ⟨F.D.drop x, fun y hy => F.nm y (List.mem_filter.mp hy).1, fun y q h => by
    unfold delT at h
    by_cases e : y = x
    · rw [if_pos e] at h; cases h
    · rw [if_neg e] at h; exact F.gv y q h⟩
theorem Fine.rev {K : PySem.W.Frag} {C : Addr} {H : Hp} {kvs : List (Key × V)} {fk : List Str} {T : Told} (F : Fine K C H kvs fk T) : Fine K C H (mergeK [] (pairsOf kvs fk.reverse)) fk.reverse T :=
  ⟨dct_merge F.D (List.reverse_perm fk), fun x hx => F.nm x (List.mem_reverse.mp hx), F.gv⟩
theorem ne_fresh {H : Hp} {a b : Addr} {o : HO} (h : H a = some o) (n : H b = none) : b ≠ a := fun z => by rw [z, h] at n; cases n
theorem mk_none {K : PySem.W.Frag} {CV C BN BV : Addr} {H : Hp} {x dx : Addr} {Q : VK} {E : XK} (nx : H x = none) (nd : H dx = none) (ne : dx ≠ x)
    (k : ∀ d H', Same H H' → H d = none → ValAt CV C H' x d (srtS []) (fun _ => none) none → Q .non H') : spVInitE K CV C BN BV [.ref x, .non] (upd (upd H dx (.own x)) x (.ins CV dx [])) Q E :=
  ⟨x, dx, _, [], [], fun _ => none, rfl, upd_same, .inr ⟨rfl, rfl, rfl, rfl⟩, (fun _ h => nomatch h), by decide, takes_good (none_due rfl) (none_due rfl) fun d H' kk nn V => k d H' (make_same nx nd kk) (make_free nn) V⟩
theorem mk_name {K : PySem.W.Frag} {CV C BN BV : Addr} {H : Hp} {x dx b : Addr} {kvs : List (Key × V)} {fk : List Str} {T : Told} {Q : VK} {nm : Str} (D : Dct (GivR K C H) kvs fk T) (kok : ∀ y ∈ fk, KeyOk y) (kl : fk.length ≤ 12) (hb : H b = some (.dK kvs)) (nx : H x = none) (nd : H dx = none) (ne : dx ≠ x)
    (f1 : (srtS fk).find? oddN = some nm) : spVInitE K CV C BN BV [.ref x, .ref b] (upd (upd H dx (.own x)) x (.ins CV dx [])) Q (wName BN (.str nm) H) := by
  have s : Same H (upd (upd H dx (.own x)) x (.ins CV dx [])) := make_sameE nx nd (Same.refl _)
  exact ⟨x, dx, _, kvs, fk, T, rfl, upd_same, .inl ⟨b, rfl, s _ _ hb, D.imp fun _ _ h => h.same s⟩, kok, kl, takes_name f1 (wName_bad.same s)⟩
theorem mk_value {K : PySem.W.Frag} {CV C BN BV : Addr} {H : Hp} {x dx b : Addr} {kvs : List (Key × V)} {fk : List Str} {T : Told} {Q : VK} {nm : Str} (D : Dct (GivR K C H) kvs fk T) (kok : ∀ y ∈ fk, KeyOk y) (kl : fk.length ≤ 12) (hb : H b = some (.dK kvs)) (nx : H x = none) (nd : H dx = none) (ne : dx ≠ x)
    (f1 : (srtS fk).find? oddN = none) (f2 : (srtS fk).find? (badAt T) = some nm) : spVInitE K CV C BN BV [.ref x, .ref b] (upd (upd H dx (.own x)) x (.ins CV dx [])) Q (wName BV (.str nm) H) := by
  have s : Same H (upd (upd H dx (.own x)) x (.ins CV dx [])) := make_sameE nx nd (Same.refl _)
  exact ⟨x, dx, _, kvs, fk, T, rfl, upd_same, .inl ⟨b, rfl, s _ _ hb, D.imp fun _ _ h => h.same s⟩, kok, kl, takes_value f1 f2 (wName_bad.same s)⟩
theorem putK_le (kvs : List (Key × V)) (k : Key) (v : V) : (putK kvs k v).length ≤ kvs.length + 1 := by
  unfold putK
  split
  · rw [List.length_map]; omega
  · rw [List.length_append]; exact Nat.le_refl _
theorem dp_pair {K : PySem.W.Frag} {H : Hp} {r : Addr} {x y : Str} (h : H r = some (.tup [.str x, .str y])) : Dp K H (.ref r) (.tuple [.str x, .str y]) := .tup (SqT.of h) (.cons (.str _) (.cons (.str _) .nil))
theorem keepL_one {f : Addr} {H H' : Hp} (k : KeepL [f] H H') : Keep f H H' := fun b o e n => k b o e fun m => n (List.mem_singleton.mp m)
theorem first_mem {p : Str → Bool} {ks : List Str} {x : Str} (h : (srtS ks).find? p = some x) : x ∈ ks := by
  obtain ⟨i, e, _⟩ := find_first h
  exact srtS_mem.mp (List.mem_of_getElem? e)
end RR
set_option maxHeartbeats 4000000
namespace RR
open PySem PySem.Spec PyProof.Rows L2
local macro_rules | `(tactic| walk_at "hp") => `(tactic| first | assumption | exact upd_same | (refine hp_new ?_ (by assumption); walk_at "hp") | (refine hp_mut ?_ (by first | assumption | (apply Ne.symm; assumption)); walk_at "hp") | (refine Same.at (by assumption) ?_; walk_at "hp"))
local macro_rules | `(tactic| walk_at "same") => `(tactic| first | exact fun _ _ z => z | assumption | (refine same_new ?_ (by assumption); walk_at "same") | (refine L2.Same.trans ?_ (by assumption); walk_at "same"))
local macro_rules | `(tactic| walk_at "sq") => `(tactic| exact SqL.of (by walk_at "hp"))
local macro_rules | `(tactic| walk_at "sqT") => `(tactic| exact SqT.of (by walk_at "hp"))

open LamX
def top (i : Nat) : Stmt := PySem.Challenge.pw_sixasone_k26_values_made.main.body.getD i (.Pass ⟨0, 0, 0, 0⟩)
abbrev s_is_int : Stmt := top 14
abbrev N_is_int : List Str := ["thing"]
theorem sc_is_int : FnScope N_is_int ["thing"] (defScope s_is_int) := ⟨rfl, rfl, rfl, by decide +kernel, rfl, by decide +kernel, by decide +kernel⟩
abbrev s_is_name : Stmt := top 15
abbrev N_is_name : List Str := ["thing"]
theorem sc_is_name : FnScope N_is_name ["thing"] (defScope s_is_name) := ⟨rfl, rfl, rfl, by decide +kernel, rfl, by decide +kernel, by decide +kernel⟩
abbrev s_value_of : Stmt := top 22
abbrev N_value_of : List Str := ["thing", "number"]
theorem sc_value_of : FnScope N_value_of ["thing"] (defScope s_value_of) := ⟨rfl, rfl, rfl, by decide +kernel, rfl, by decide +kernel, by decide +kernel⟩
abbrev s_Ratio___init__ : Stmt := inClass (top 20) 0
abbrev N_Ratio___init__ : List Str := ["self", "top", "bottom", "shared"]
theorem sc_Ratio___init__ : FnScope N_Ratio___init__ ["self", "top", "bottom"] (defScope s_Ratio___init__) := ⟨rfl, rfl, rfl, by decide +kernel, rfl, by decide +kernel, by decide +kernel⟩
abbrev s_Ratio_of : Stmt := inClass (top 20) 2
abbrev N_Ratio_of : List Str := ["thing"]
theorem sc_Ratio_of : FnScope N_Ratio_of ["thing"] (defScope s_Ratio_of) := ⟨rfl, rfl, rfl, by decide +kernel, rfl, by decide +kernel, by decide +kernel⟩
abbrev s_Ratio_endless : Stmt := inClass (top 20) 1
abbrev N_Ratio_endless : List Str := ["made"]
theorem sc_Ratio_endless : FnScope N_Ratio_endless [] (defScope s_Ratio_endless) := ⟨rfl, rfl, rfl, by decide +kernel, rfl, by decide +kernel, by decide +kernel⟩
abbrev s_Ratio_is_endless : Stmt := inClass (top 20) 7
abbrev N_Ratio_is_endless : List Str := ["self"]
theorem sc_Ratio_is_endless : FnScope N_Ratio_is_endless ["self"] (defScope s_Ratio_is_endless) := ⟨rfl, rfl, rfl, by decide +kernel, rfl, by decide +kernel, by decide +kernel⟩
abbrev s_Ratio___lt__ : Stmt := inClass (top 20) 23
abbrev N_Ratio___lt__ : List Str := ["self", "other"]
theorem sc_Ratio___lt__ : FnScope N_Ratio___lt__ ["self", "other"] (defScope s_Ratio___lt__) := ⟨rfl, rfl, rfl, by decide +kernel, rfl, by decide +kernel, by decide +kernel⟩
abbrev s_Ratio___eq__ : Stmt := inClass (top 20) 27
abbrev N_Ratio___eq__ : List Str := ["self", "other"]
theorem sc_Ratio___eq__ : FnScope N_Ratio___eq__ ["self", "other"] (defScope s_Ratio___eq__) := ⟨rfl, rfl, rfl, by decide +kernel, rfl, by decide +kernel, by decide +kernel⟩
abbrev s_Ratio___str__ : Stmt := inClass (top 20) 28
abbrev N_Ratio___str__ : List Str := ["self"]
theorem sc_Ratio___str__ : FnScope N_Ratio___str__ ["self"] (defScope s_Ratio___str__) := ⟨rfl, rfl, rfl, by decide +kernel, rfl, by decide +kernel, by decide +kernel⟩
abbrev s_Ratio___repr__ : Stmt := inClass (top 20) 29
abbrev N_Ratio___repr__ : List Str := ["self"]
theorem sc_Ratio___repr__ : FnScope N_Ratio___repr__ ["self"] (defScope s_Ratio___repr__) := ⟨rfl, rfl, rfl, by decide +kernel, rfl, by decide +kernel, by decide +kernel⟩
abbrev s_Values___init__ : Stmt := inClass (top 23) 0
abbrev N_Values___init__ : List Str := ["self", "numbers", "given", "names", "name"]
theorem sc_Values___init__ : FnScope N_Values___init__ ["self", "numbers"] (defScope s_Values___init__) := ⟨rfl, rfl, rfl, by decide +kernel, rfl, by decide +kernel, by decide +kernel⟩
abbrev s_Values_rest_get : Stmt := inClass (top 23) 2
abbrev N_Values_rest_get : List Str := ["self"]
theorem sc_Values_rest_get : FnScope N_Values_rest_get ["self"] (defScope s_Values_rest_get) := ⟨rfl, rfl, rfl, by decide +kernel, rfl, by decide +kernel, by decide +kernel⟩
abbrev s_Values_names : Stmt := inClass (top 23) 5
abbrev N_Values_names : List Str := ["self", "name"]
theorem sc_Values_names : FnScope N_Values_names ["self"] (defScope s_Values_names) := ⟨rfl, rfl, rfl, by decide +kernel, rfl, by decide +kernel, by decide +kernel⟩
abbrev s_Values___getitem__ : Stmt := inClass (top 23) 13
abbrev N_Values___getitem__ : List Str := ["self", "name", "found"]
theorem sc_Values___getitem__ : FnScope N_Values___getitem__ ["self", "name"] (defScope s_Values___getitem__) := ⟨rfl, rfl, rfl, by decide +kernel, rfl, by decide +kernel, by decide +kernel⟩
abbrev s_Values___contains__ : Stmt := inClass (top 23) 16
abbrev N_Values___contains__ : List Str := ["self", "name"]
theorem sc_Values___contains__ : FnScope N_Values___contains__ ["self", "name"] (defScope s_Values___contains__) := ⟨rfl, rfl, rfl, by decide +kernel, rfl, by decide +kernel, by decide +kernel⟩
abbrev s_Values___len__ : Stmt := inClass (top 23) 17
abbrev N_Values___len__ : List Str := ["self"]
theorem sc_Values___len__ : FnScope N_Values___len__ ["self"] (defScope s_Values___len__) := ⟨rfl, rfl, rfl, by decide +kernel, rfl, by decide +kernel, by decide +kernel⟩
abbrev s_Values___eq__ : Stmt := inClass (top 23) 18
abbrev N_Values___eq__ : List Str := ["self", "other"]
theorem sc_Values___eq__ : FnScope N_Values___eq__ ["self", "other"] (defScope s_Values___eq__) := ⟨rfl, rfl, rfl, by decide +kernel, rfl, by decide +kernel, by decide +kernel⟩
abbrev s_Values___str__ : Stmt := inClass (top 23) 19
abbrev N_Values___str__ : List Str := ["self", "items", "name"]
theorem sc_Values___str__ : FnScope N_Values___str__ ["self"] (defScope s_Values___str__) := ⟨rfl, rfl, rfl, by decide +kernel, rfl, by decide +kernel, by decide +kernel⟩
abbrev s__law_pen : Stmt := top 25
abbrev N__law_pen : List Str := ["_law_script"]
theorem sc__law_pen : FnScope N__law_pen ["_law_script"] (defScope s__law_pen) := ⟨rfl, rfl, rfl, by decide +kernel, rfl, by decide +kernel, by decide +kernel⟩
abbrev s__law_draw : Stmt := top 26
abbrev N__law_draw : List Str := ["_law_pen_here", "_law_many", "_law_digit", "_law_at", "_law_cell", "_law_great", "_law_blended"]
theorem sc__law_draw : FnScope N__law_draw ["_law_pen_here", "_law_many"] (defScope s__law_draw) := ⟨rfl, rfl, rfl, by decide +kernel, rfl, by decide +kernel, by decide +kernel⟩
abbrev s__law_pick : Stmt := top 27
abbrev N__law_pick : List Str := ["_law_pen_here", "_law_some"]
theorem sc__law_pick : FnScope N__law_pick ["_law_pen_here", "_law_some"] (defScope s__law_pick) := ⟨rfl, rfl, rfl, by decide +kernel, rfl, by decide +kernel, by decide +kernel⟩
abbrev s__law_low : Stmt := top 28
abbrev N__law_low : List Str := ["_law_upper", "_law_lower", "_law_first", "_law_second"]
theorem sc__law_low : FnScope N__law_low ["_law_upper", "_law_lower"] (defScope s__law_low) := ⟨rfl, rfl, rfl, by decide +kernel, rfl, by decide +kernel, by decide +kernel⟩
abbrev s__law_is : Stmt := top 29
abbrev N__law_is : List Str := ["_law_found", "_law_pair"]
theorem sc__law_is : FnScope N__law_is ["_law_found", "_law_pair"] (defScope s__law_is) := ⟨rfl, rfl, rfl, by decide +kernel, rfl, by decide +kernel, by decide +kernel⟩
abbrev s__law_fraction : Stmt := top 30
abbrev N__law_fraction : List Str := ["_law_pen_here", "_law_tops", "_law_bottoms", "_law_sign"]
theorem sc__law_fraction : FnScope N__law_fraction ["_law_pen_here"] (defScope s__law_fraction) := ⟨rfl, rfl, rfl, by decide +kernel, rfl, by decide +kernel, by decide +kernel⟩
abbrev s__law_number : Stmt := top 31
abbrev N__law_number : List Str := ["_law_pen_here", "_law_pair"]
theorem sc__law_number : FnScope N__law_number ["_law_pen_here"] (defScope s__law_number) := ⟨rfl, rfl, rfl, by decide +kernel, rfl, by decide +kernel, by decide +kernel⟩
abbrev s__law_odd_number : Stmt := top 32
abbrev N__law_odd_number : List Str := ["_law_pen_here", "_law_some"]
theorem sc__law_odd_number : FnScope N__law_odd_number ["_law_pen_here"] (defScope s__law_odd_number) := ⟨rfl, rfl, rfl, by decide +kernel, rfl, by decide +kernel, by decide +kernel⟩
abbrev s__law_words : Stmt := top 33
abbrev N__law_words : List Str := ["_law_pen_here", "_law_many", "_law_left", "_law_again"]
theorem sc__law_words : FnScope N__law_words ["_law_pen_here", "_law_many"] (defScope s__law_words) := ⟨rfl, rfl, rfl, by decide +kernel, rfl, by decide +kernel, by decide +kernel⟩
abbrev s__law_heard : Stmt := top 34
abbrev N__law_heard : List Str := ["_law_ask", "_law_caught", "_law_found", "error", "_law_kinds"]
theorem sc__law_heard : FnScope N__law_heard ["_law_ask"] (defScope s__law_heard) := ⟨rfl, rfl, rfl, by decide +kernel, rfl, by decide +kernel, by decide +kernel⟩
abbrev s__law_keeps : Stmt := top 35
abbrev N__law_keeps : List Str := ["_law_held", "_law_told", "_law_rest", "_law_names", "_law_name"]
theorem sc__law_keeps : FnScope N__law_keeps ["_law_held", "_law_told", "_law_rest"] (defScope s__law_keeps) := ⟨rfl, rfl, rfl, by decide +kernel, rfl, by decide +kernel, by decide +kernel⟩
abbrev s__law_given : Stmt := top 36
abbrev N__law_given : List Str := ["_law_pen_here", "_law_given_here", "_law_told", "_law_wrong", "_law_name", "_law_pair", "_law_passed", "_law_keys", "_law_some", "_law_again", "_law_key"]
theorem sc__law_given : FnScope N__law_given ["_law_pen_here"] (defScope s__law_given) := ⟨rfl, rfl, rfl, by decide +kernel, rfl, by decide +kernel, by decide +kernel⟩
abbrev s__law_equal_right : Stmt := top 37
abbrev N__law_equal_right : List Str := ["_law_pen_here", "_law_held", "_law_given_here", "_law_told", "_law_back", "_law_name", "_law_other", "_law_value"]
theorem sc__law_equal_right : FnScope N__law_equal_right ["_law_pen_here", "_law_held", "_law_given_here", "_law_told"] (defScope s__law_equal_right) := ⟨rfl, rfl, rfl, by decide +kernel, rfl, by decide +kernel, by decide +kernel⟩
abbrev s_law : Stmt := top 38
abbrev N_law : List Str := ["_law_script", "_law_pen_here", "_law_spin", "_law_given_here", "_law_told", "_law_due", "_law_kept", "_law_heard_here", "_law_held", "_law_name"]
theorem sc_law : FnScope N_law ["_law_script"] (defScope s_law) := ⟨rfl, rfl, rfl, by decide +kernel, rfl, by decide +kernel, by decide +kernel⟩
structure TX (K : PySem.W.Frag) (mg : Str → Option Value) : Type where
  b_int : mg "int" = none
  b_bool : mg "bool" = none
  b_isinstance : mg "isinstance" = none
  b_list : mg "list" = none
  b_tuple : mg "tuple" = none
  b_len : mg "len" = none
  b_abs : mg "abs" = none
  b_repr : mg "repr" = none
  b_range : mg "range" = none
  b_str : mg "str" = none
  b_sorted : mg "sorted" = none
  b_dict : mg "dict" = none
  b_ValueError : mg "ValueError" = none
  f_is_int : Addr
  d_is_int : FuncData
  F_is_int : Fun K "is_int" "is_int" s_is_int f_is_int d_is_int
  m_is_int : mg "is_int" = some (.ref f_is_int)
  f_is_name : Addr
  d_is_name : FuncData
  F_is_name : Fun K "is_name" "is_name" s_is_name f_is_name d_is_name
  m_is_name : mg "is_name" = some (.ref f_is_name)
  f_value_of : Addr
  d_value_of : FuncData
  F_value_of : Fun K "value_of" "value_of" s_value_of f_value_of d_value_of
  m_value_of : mg "value_of" = some (.ref f_value_of)
  f__law_pen : Addr
  d__law_pen : FuncData
  F__law_pen : Fun K "_law_pen" "_law_pen" s__law_pen f__law_pen d__law_pen
  m__law_pen : mg "_law_pen" = some (.ref f__law_pen)
  f__law_draw : Addr
  d__law_draw : FuncData
  F__law_draw : Fun K "_law_draw" "_law_draw" s__law_draw f__law_draw d__law_draw
  m__law_draw : mg "_law_draw" = some (.ref f__law_draw)
  f__law_pick : Addr
  d__law_pick : FuncData
  F__law_pick : Fun K "_law_pick" "_law_pick" s__law_pick f__law_pick d__law_pick
  m__law_pick : mg "_law_pick" = some (.ref f__law_pick)
  f__law_low : Addr
  d__law_low : FuncData
  F__law_low : Fun K "_law_low" "_law_low" s__law_low f__law_low d__law_low
  m__law_low : mg "_law_low" = some (.ref f__law_low)
  f__law_is : Addr
  d__law_is : FuncData
  F__law_is : Fun K "_law_is" "_law_is" s__law_is f__law_is d__law_is
  m__law_is : mg "_law_is" = some (.ref f__law_is)
  f__law_fraction : Addr
  d__law_fraction : FuncData
  F__law_fraction : Fun K "_law_fraction" "_law_fraction" s__law_fraction f__law_fraction d__law_fraction
  m__law_fraction : mg "_law_fraction" = some (.ref f__law_fraction)
  f__law_number : Addr
  d__law_number : FuncData
  F__law_number : Fun K "_law_number" "_law_number" s__law_number f__law_number d__law_number
  m__law_number : mg "_law_number" = some (.ref f__law_number)
  f__law_odd_number : Addr
  d__law_odd_number : FuncData
  F__law_odd_number : Fun K "_law_odd_number" "_law_odd_number" s__law_odd_number f__law_odd_number d__law_odd_number
  m__law_odd_number : mg "_law_odd_number" = some (.ref f__law_odd_number)
  f__law_words : Addr
  d__law_words : FuncData
  F__law_words : Fun K "_law_words" "_law_words" s__law_words f__law_words d__law_words
  m__law_words : mg "_law_words" = some (.ref f__law_words)
  f__law_heard : Addr
  d__law_heard : FuncData
  F__law_heard : Fun K "_law_heard" "_law_heard" s__law_heard f__law_heard d__law_heard
  m__law_heard : mg "_law_heard" = some (.ref f__law_heard)
  f__law_keeps : Addr
  d__law_keeps : FuncData
  F__law_keeps : Fun K "_law_keeps" "_law_keeps" s__law_keeps f__law_keeps d__law_keeps
  m__law_keeps : mg "_law_keeps" = some (.ref f__law_keeps)
  f__law_given : Addr
  d__law_given : FuncData
  F__law_given : Fun K "_law_given" "_law_given" s__law_given f__law_given d__law_given
  m__law_given : mg "_law_given" = some (.ref f__law_given)
  f__law_equal_right : Addr
  d__law_equal_right : FuncData
  F__law_equal_right : Fun K "_law_equal_right" "_law_equal_right" s__law_equal_right f__law_equal_right d__law_equal_right
  m__law_equal_right : mg "_law_equal_right" = some (.ref f__law_equal_right)
  f_law : Addr
  d_law : FuncData
  F_law : Fun K "law" "law" s_law f_law d_law
  m_law : mg "law" = some (.ref f_law)
  C_Ratio : Addr
  m_Ratio : mg "Ratio" = some (.ref C_Ratio)
  f_Ratio_of : Addr
  d_Ratio_of : FuncData
  F_Ratio_of : Fun K "of" "Ratio.of" s_Ratio_of f_Ratio_of d_Ratio_of
  f_Ratio_endless : Addr
  d_Ratio_endless : FuncData
  F_Ratio_endless : Fun K "endless" "Ratio.endless" s_Ratio_endless f_Ratio_endless d_Ratio_endless
  f_Ratio_is_endless : Addr
  d_Ratio_is_endless : FuncData
  F_Ratio_is_endless : Fun K "is_endless" "Ratio.is_endless" s_Ratio_is_endless f_Ratio_is_endless d_Ratio_is_endless
  f_Ratio___lt__ : Addr
  d_Ratio___lt__ : FuncData
  F_Ratio___lt__ : Fun K "__lt__" "Ratio.__lt__" s_Ratio___lt__ f_Ratio___lt__ d_Ratio___lt__
  f_Ratio___eq__ : Addr
  d_Ratio___eq__ : FuncData
  F_Ratio___eq__ : Fun K "__eq__" "Ratio.__eq__" s_Ratio___eq__ f_Ratio___eq__ d_Ratio___eq__
  f_Ratio___str__ : Addr
  d_Ratio___str__ : FuncData
  F_Ratio___str__ : Fun K "__str__" "Ratio.__str__" s_Ratio___str__ f_Ratio___str__ d_Ratio___str__
  f_Ratio___repr__ : Addr
  d_Ratio___repr__ : FuncData
  F_Ratio___repr__ : Fun K "__repr__" "Ratio.__repr__" s_Ratio___repr__ f_Ratio___repr__ d_Ratio___repr__
  C_Values : Addr
  m_Values : mg "Values" = some (.ref C_Values)
  f_Values_rest_get : Addr
  d_Values_rest_get : FuncData
  F_Values_rest_get : Fun K "rest" "Values.rest" s_Values_rest_get f_Values_rest_get d_Values_rest_get
  f_Values_names : Addr
  d_Values_names : FuncData
  F_Values_names : Fun K "names" "Values.names" s_Values_names f_Values_names d_Values_names
  f_Values___getitem__ : Addr
  d_Values___getitem__ : FuncData
  F_Values___getitem__ : Fun K "__getitem__" "Values.__getitem__" s_Values___getitem__ f_Values___getitem__ d_Values___getitem__
  f_Values___contains__ : Addr
  d_Values___contains__ : FuncData
  F_Values___contains__ : Fun K "__contains__" "Values.__contains__" s_Values___contains__ f_Values___contains__ d_Values___contains__
  f_Values___len__ : Addr
  d_Values___len__ : FuncData
  F_Values___len__ : Fun K "__len__" "Values.__len__" s_Values___len__ f_Values___len__ d_Values___len__
  f_Values___eq__ : Addr
  d_Values___eq__ : FuncData
  F_Values___eq__ : Fun K "__eq__" "Values.__eq__" s_Values___eq__ f_Values___eq__ d_Values___eq__
  f_Values___str__ : Addr
  d_Values___str__ : FuncData
  F_Values___str__ : Fun K "__str__" "Values.__str__" s_Values___str__ f_Values___str__ d_Values___str__
  C_BadRatio : Addr
  m_BadRatio : mg "BadRatio" = some (.ref C_BadRatio)
  C_BadName : Addr
  m_BadName : mg "BadName" = some (.ref C_BadName)
  C_BadValue : Addr
  m_BadValue : mg "BadValue" = some (.ref C_BadValue)
  C_NoValue : Addr
  m_NoValue : mg "NoValue" = some (.ref C_NoValue)
  C_NoRatio : Addr
  m_NoRatio : mg "NoRatio" = some (.ref C_NoRatio)
  C_WebError : Addr
  m_WebError : mg "WebError" = some (.ref C_WebError)
  rc : RC K C_Ratio
  m_gcd : mg "gcd" = some (.builtin "math.gcd")
  f_Ratio___init__ : Addr
  d_Ratio___init__ : FuncData
  F_Ratio___init__ : FunD K "__init__" "Ratio.__init__" (defArgs s_Ratio___init__) (defBody s_Ratio___init__) (defScope s_Ratio___init__) [.int 1] [] f_Ratio___init__ d_Ratio___init__
  mk_Ratio : Mk K C_Ratio f_Ratio___init__
  bd1 : ∃ ds, Vals [V.int 1] ds ∧ Binds K d_Ratio___init__ ["self", "top", "bottom"] ds
  bd2 : ∃ ds, Vals [] ds ∧ Binds K d_Ratio___init__ ["self", "top", "bottom"] ds
  p_is_endless : Addr
  pr_is_endless : PropOf K C_Ratio "is_endless" p_is_endless f_Ratio_is_endless
  mc_Ratio : Value
  p_of : Addr
  st_of : SMet K C_Ratio mc_Ratio "of" p_of f_Ratio_of
  n1 : PySem.W.notFirst K C_Ratio (.type "int") = true
  n2 : PySem.W.notFirst K C_Ratio (.ref C_Ratio) = true
  fI_BadRatio : Addr
  low_BadRatio : PySem.LowA.LowTxt K mg "BadRatio" "BadRatio.__init__" C_BadRatio fI_BadRatio
  p_endless : Addr
  st_endless : SMet K C_Ratio mc_Ratio "endless" p_endless f_Ratio_endless
  st : PySem.W.findIn K (.ref C_Ratio) "__str__" = some (some (.ref f_Ratio___str__)) ∧ PySem.W.isFn K (.ref f_Ratio___str__) = true
  rp : PySem.W.findIn K (.ref C_Ratio) "__repr__" = some (some (.ref f_Ratio___repr__)) ∧ PySem.W.isFn K (.ref f_Ratio___repr__) = true
  lt : PySem.W.findIn K (.ref C_Ratio) (cmpInfo .Lt).2.1 = some (some (.ref f_Ratio___lt__)) ∧ PySem.W.isFn K (.ref f_Ratio___lt__) = true
  eqm : PySem.W.findIn K (.ref C_Ratio) (cmpInfo .Eq).2.1 = some (some (.ref f_Ratio___eq__)) ∧ PySem.W.isFn K (.ref f_Ratio___eq__) = true
  fmt : PySem.W.findIn K (.ref C_Ratio) "__format__" = some (some (.builtin "object.__format__"))
  nem : PySem.W.findIn K (.ref C_Ratio) "__ne__" = some (some (.builtin "object.__ne__"))
  kRI : PySem.W.kitOne K (.ref C_Ratio) (.type "int") = some false
  subR : PySem.W.subIn K (.ref C_Ratio) (.type "int") = some false
  LONG_t : Tok
  m_LONGEST : mg "LONGEST" = some (.int 8 LONG_t)
  a_RESERVED : Addr
  m_RESERVED : mg "RESERVED" = some (.ref a_RESERVED)
  resT : ∀ H, SqT K H a_RESERVED resV
  oth : Others K C_Ratio
  vc : Cls K C_Values
  nTold : NoAttr K C_Values "told"
  nUnt : NoAttr K C_Values "untold"
  f_Values___init__ : Addr
  d_Values___init__ : FuncData
  F_Values___init__ : FunD K "__init__" "Values.__init__" (defArgs s_Values___init__) (defBody s_Values___init__) (defScope s_Values___init__) [.non] [] f_Values___init__ d_Values___init__
  mk_Values : Mk K C_Values f_Values___init__
  p_rest : Addr
  pr_rest : PropOf K C_Values "rest" p_rest f_Values_rest_get
  fI_BadName : Addr
  low_BadName : PySem.LowN.LowTxt K mg "BadName" "BadName.__init__" C_BadName fI_BadName
  fI_BadValue : Addr
  low_BadValue : PySem.LowN.LowTxt K mg "BadValue" "BadValue.__init__" C_BadValue fI_BadValue
  fI_NoValue : Addr
  low_NoValue : PySem.LowN.LowTxt K mg "NoValue" "NoValue.__init__" C_NoValue fI_NoValue
  gi : PySem.W.findIn K (.ref C_Values) "__getitem__" = some (some (.ref f_Values___getitem__)) ∧ PySem.W.isFn K (.ref f_Values___getitem__) = true ∧ PySem.W.fnIn K f_Values___getitem__ = true
  ci : PySem.W.findIn K (.ref C_Values) "__contains__" = some (some (.ref f_Values___contains__)) ∧ PySem.W.isFn K (.ref f_Values___contains__) = true
  li : PySem.W.findIn K (.ref C_Values) "__len__" = some (some (.ref f_Values___len__)) ∧ PySem.W.isFn K (.ref f_Values___len__) = true
  p_names : Addr
  pr_names : PropOf K C_Values "names" p_names f_Values_names
  bdV : ∃ ds, Vals [] ds ∧ Binds K d_Values___init__ ["self", "numbers"] ds
  nf : PySem.W.notFirst K C_Ratio (.ref C_Ratio) = true
  rcV : RC K C_Values
  othV : Others K C_Values
  bdV0 : ∃ ds, Vals [.non] ds ∧ Binds K d_Values___init__ ["self", "numbers"] ds
  kbV : KBn K d_Values___init__ ["self", "numbers"] (0 + 1) ["numbers"] (fun us ws => us ++ ws) (fun vs zs => vs ++ zs)
  nVV : PySem.W.notFirst K C_Values (.ref C_Values) = true
  eqV : PySem.W.findIn K (.ref C_Values) (cmpInfo .Eq).2.1 = some (some (.ref f_Values___eq__)) ∧ PySem.W.isFn K (.ref f_Values___eq__) = true
  neV : PySem.W.findIn K (.ref C_Values) "__ne__" = some (some (.builtin "object.__ne__"))
  stV : PySem.W.findIn K (.ref C_Values) "__str__" = some (some (.ref f_Values___str__)) ∧ PySem.W.isFn K (.ref f_Values___str__) = true
  eBN : ExcC K C_BadName
  eBV : ExcC K C_BadValue
  eNV : ExcC K C_NoValue
  wBN : PySem.W.exmOne K (.ref C_BadName) (.ref C_WebError) = some true
  wBV : PySem.W.exmOne K (.ref C_BadValue) (.ref C_WebError) = some true
  wNV : PySem.W.exmOne K (.ref C_NoValue) (.ref C_WebError) = some true
  kBNBV : PySem.W.kitOne K (.ref C_BadName) (.ref C_BadValue) = some false
  kBNNV : PySem.W.kitOne K (.ref C_BadName) (.ref C_NoValue) = some false
  kBNR : PySem.W.kitOne K (.ref C_BadName) (.ref C_NoRatio) = some false
  kBVBN : PySem.W.kitOne K (.ref C_BadValue) (.ref C_BadName) = some false
  kBVNV : PySem.W.kitOne K (.ref C_BadValue) (.ref C_NoValue) = some false
  kBVR : PySem.W.kitOne K (.ref C_BadValue) (.ref C_NoRatio) = some false
  kNVBN : PySem.W.kitOne K (.ref C_NoValue) (.ref C_BadName) = some false
  kNVBV : PySem.W.kitOne K (.ref C_NoValue) (.ref C_BadValue) = some false
  kNVR : PySem.W.kitOne K (.ref C_NoValue) (.ref C_NoRatio) = some false
  kVBN : PySem.W.kitOne K (.ref C_BadName) (.type "ValueError") = some true
  kVBV : PySem.W.kitOne K (.ref C_BadValue) (.type "ValueError") = some true
  kVNV : PySem.W.kitOne K (.ref C_NoValue) (.type "ValueError") = some true
  cK : Addr
  cL : Addr
  PK : Addr
  PL : Addr
  codeK : d__law_keeps.code = .ref cK
  codeL : d_law.code = .ref cL
  neKL : PK ≠ PL
theorem bd_is_int {K : PySem.W.Frag} {f : Addr} {fd : FuncData} (F : Fun K "is_int" "is_int" s_is_int f fd) : Binds K fd ["thing"] [] := F.binds fun _ _ _ _ _ _ us hl => match us, hl with | [_], _ => rfl
theorem bd_is_name {K : PySem.W.Frag} {f : Addr} {fd : FuncData} (F : Fun K "is_name" "is_name" s_is_name f fd) : Binds K fd ["thing"] [] := F.binds fun _ _ _ _ _ _ us hl => match us, hl with | [_], _ => rfl
theorem bd_value_of {K : PySem.W.Frag} {f : Addr} {fd : FuncData} (F : Fun K "value_of" "value_of" s_value_of f fd) : Binds K fd ["thing"] [] := F.binds fun _ _ _ _ _ _ us hl => match us, hl with | [_], _ => rfl
theorem bd_Ratio_of {K : PySem.W.Frag} {f : Addr} {fd : FuncData} (F : Fun K "of" "Ratio.of" s_Ratio_of f fd) : Binds K fd ["thing"] [] := F.binds fun _ _ _ _ _ _ us hl => match us, hl with | [_], _ => rfl
theorem bd_Ratio_endless {K : PySem.W.Frag} {f : Addr} {fd : FuncData} (F : Fun K "endless" "Ratio.endless" s_Ratio_endless f fd) : Binds K fd [] [] := F.binds fun _ _ _ _ _ _ us hl => match us, hl with | [], _ => rfl
theorem bd_Ratio_is_endless {K : PySem.W.Frag} {f : Addr} {fd : FuncData} (F : Fun K "is_endless" "Ratio.is_endless" s_Ratio_is_endless f fd) : Binds K fd ["self"] [] := F.binds fun _ _ _ _ _ _ us hl => match us, hl with | [_], _ => rfl
theorem bd_Ratio___lt__ {K : PySem.W.Frag} {f : Addr} {fd : FuncData} (F : Fun K "__lt__" "Ratio.__lt__" s_Ratio___lt__ f fd) : Binds K fd ["self", "other"] [] := F.binds fun _ _ _ _ _ _ us hl => match us, hl with | [_, _], _ => rfl
theorem bd_Ratio___eq__ {K : PySem.W.Frag} {f : Addr} {fd : FuncData} (F : Fun K "__eq__" "Ratio.__eq__" s_Ratio___eq__ f fd) : Binds K fd ["self", "other"] [] := F.binds fun _ _ _ _ _ _ us hl => match us, hl with | [_, _], _ => rfl
theorem bd_Ratio___str__ {K : PySem.W.Frag} {f : Addr} {fd : FuncData} (F : Fun K "__str__" "Ratio.__str__" s_Ratio___str__ f fd) : Binds K fd ["self"] [] := F.binds fun _ _ _ _ _ _ us hl => match us, hl with | [_], _ => rfl
theorem bd_Ratio___repr__ {K : PySem.W.Frag} {f : Addr} {fd : FuncData} (F : Fun K "__repr__" "Ratio.__repr__" s_Ratio___repr__ f fd) : Binds K fd ["self"] [] := F.binds fun _ _ _ _ _ _ us hl => match us, hl with | [_], _ => rfl
theorem bd_Values_rest_get {K : PySem.W.Frag} {f : Addr} {fd : FuncData} (F : Fun K "rest" "Values.rest" s_Values_rest_get f fd) : Binds K fd ["self"] [] := F.binds fun _ _ _ _ _ _ us hl => match us, hl with | [_], _ => rfl
theorem bd_Values_names {K : PySem.W.Frag} {f : Addr} {fd : FuncData} (F : Fun K "names" "Values.names" s_Values_names f fd) : Binds K fd ["self"] [] := F.binds fun _ _ _ _ _ _ us hl => match us, hl with | [_], _ => rfl
theorem bd_Values___getitem__ {K : PySem.W.Frag} {f : Addr} {fd : FuncData} (F : Fun K "__getitem__" "Values.__getitem__" s_Values___getitem__ f fd) : Binds K fd ["self", "name"] [] := F.binds fun _ _ _ _ _ _ us hl => match us, hl with | [_, _], _ => rfl
theorem bd_Values___contains__ {K : PySem.W.Frag} {f : Addr} {fd : FuncData} (F : Fun K "__contains__" "Values.__contains__" s_Values___contains__ f fd) : Binds K fd ["self", "name"] [] := F.binds fun _ _ _ _ _ _ us hl => match us, hl with | [_, _], _ => rfl
theorem bd_Values___len__ {K : PySem.W.Frag} {f : Addr} {fd : FuncData} (F : Fun K "__len__" "Values.__len__" s_Values___len__ f fd) : Binds K fd ["self"] [] := F.binds fun _ _ _ _ _ _ us hl => match us, hl with | [_], _ => rfl
theorem bd_Values___eq__ {K : PySem.W.Frag} {f : Addr} {fd : FuncData} (F : Fun K "__eq__" "Values.__eq__" s_Values___eq__ f fd) : Binds K fd ["self", "other"] [] := F.binds fun _ _ _ _ _ _ us hl => match us, hl with | [_, _], _ => rfl
theorem bd_Values___str__ {K : PySem.W.Frag} {f : Addr} {fd : FuncData} (F : Fun K "__str__" "Values.__str__" s_Values___str__ f fd) : Binds K fd ["self"] [] := F.binds fun _ _ _ _ _ _ us hl => match us, hl with | [_], _ => rfl
theorem bd__law_pen {K : PySem.W.Frag} {f : Addr} {fd : FuncData} (F : Fun K "_law_pen" "_law_pen" s__law_pen f fd) : Binds K fd ["_law_script"] [] := F.binds fun _ _ _ _ _ _ us hl => match us, hl with | [_], _ => rfl
theorem bd__law_draw {K : PySem.W.Frag} {f : Addr} {fd : FuncData} (F : Fun K "_law_draw" "_law_draw" s__law_draw f fd) : Binds K fd ["_law_pen_here", "_law_many"] [] := F.binds fun _ _ _ _ _ _ us hl => match us, hl with | [_, _], _ => rfl
theorem bd__law_pick {K : PySem.W.Frag} {f : Addr} {fd : FuncData} (F : Fun K "_law_pick" "_law_pick" s__law_pick f fd) : Binds K fd ["_law_pen_here", "_law_some"] [] := F.binds fun _ _ _ _ _ _ us hl => match us, hl with | [_, _], _ => rfl
theorem bd__law_low {K : PySem.W.Frag} {f : Addr} {fd : FuncData} (F : Fun K "_law_low" "_law_low" s__law_low f fd) : Binds K fd ["_law_upper", "_law_lower"] [] := F.binds fun _ _ _ _ _ _ us hl => match us, hl with | [_, _], _ => rfl
theorem bd__law_is {K : PySem.W.Frag} {f : Addr} {fd : FuncData} (F : Fun K "_law_is" "_law_is" s__law_is f fd) : Binds K fd ["_law_found", "_law_pair"] [] := F.binds fun _ _ _ _ _ _ us hl => match us, hl with | [_, _], _ => rfl
theorem bd__law_fraction {K : PySem.W.Frag} {f : Addr} {fd : FuncData} (F : Fun K "_law_fraction" "_law_fraction" s__law_fraction f fd) : Binds K fd ["_law_pen_here"] [] := F.binds fun _ _ _ _ _ _ us hl => match us, hl with | [_], _ => rfl
theorem bd__law_number {K : PySem.W.Frag} {f : Addr} {fd : FuncData} (F : Fun K "_law_number" "_law_number" s__law_number f fd) : Binds K fd ["_law_pen_here"] [] := F.binds fun _ _ _ _ _ _ us hl => match us, hl with | [_], _ => rfl
theorem bd__law_odd_number {K : PySem.W.Frag} {f : Addr} {fd : FuncData} (F : Fun K "_law_odd_number" "_law_odd_number" s__law_odd_number f fd) : Binds K fd ["_law_pen_here"] [] := F.binds fun _ _ _ _ _ _ us hl => match us, hl with | [_], _ => rfl
theorem bd__law_words {K : PySem.W.Frag} {f : Addr} {fd : FuncData} (F : Fun K "_law_words" "_law_words" s__law_words f fd) : Binds K fd ["_law_pen_here", "_law_many"] [] := F.binds fun _ _ _ _ _ _ us hl => match us, hl with | [_, _], _ => rfl
theorem bd__law_heard {K : PySem.W.Frag} {f : Addr} {fd : FuncData} (F : Fun K "_law_heard" "_law_heard" s__law_heard f fd) : Binds K fd ["_law_ask"] [] := F.binds fun _ _ _ _ _ _ us hl => match us, hl with | [_], _ => rfl
theorem bd__law_keeps {K : PySem.W.Frag} {f : Addr} {fd : FuncData} (F : Fun K "_law_keeps" "_law_keeps" s__law_keeps f fd) : Binds K fd ["_law_held", "_law_told", "_law_rest"] [] := F.binds fun _ _ _ _ _ _ us hl => match us, hl with | [_, _, _], _ => rfl
theorem bd__law_given {K : PySem.W.Frag} {f : Addr} {fd : FuncData} (F : Fun K "_law_given" "_law_given" s__law_given f fd) : Binds K fd ["_law_pen_here"] [] := F.binds fun _ _ _ _ _ _ us hl => match us, hl with | [_], _ => rfl
theorem bd__law_equal_right {K : PySem.W.Frag} {f : Addr} {fd : FuncData} (F : Fun K "_law_equal_right" "_law_equal_right" s__law_equal_right f fd) : Binds K fd ["_law_pen_here", "_law_held", "_law_given_here", "_law_told"] [] := F.binds fun _ _ _ _ _ _ us hl => match us, hl with | [_, _, _, _], _ => rfl
theorem bd_law {K : PySem.W.Frag} {f : Addr} {fd : FuncData} (F : Fun K "law" "law" s_law f fd) : Binds K fd ["_law_script"] [] := F.binds fun _ _ _ _ _ _ us hl => match us, hl with | [_], _ => rfl
theorem put_unt {d : Addr} {u v : V} : putF ("untold" : Str) v [(("told" : Str), V.ref d), (("untold" : Str), u)] = [(("told" : Str), V.ref d), (("untold" : Str), v)] := by rfl
section
variable {P : Program} {w : World} {K : PySem.W.Frag} {mg : Str → Option Value} {base : Heap}
theorem ok_is_int (T : TX K mg) : FnOk P w K mg base CX0 1 T.f_is_int T.d_is_int ["thing"] (spIsIntA K) := by
  refine T.F_is_int.ok sc_is_int (fun vs H Q E h => ?_) (fun cdv A out s H vs Q E hr h => ?_)
  · obtain ⟨v, c, rfl, h, k⟩ := h
    rfl
  · obtain ⟨v, c, rfl, h, k⟩ := h
    refine ⟨_, (pss_one (ps_ret (pe_and (pe_callB call_isi (by rfl) T.b_isinstance (by decide +kernel) (pa_cons (pv 0) (pa_cons (pe_bltn (v := .ty "int") (by rfl) T.b_int (by decide +kernel) rfl) pa_nil))) (pe_one (pe_not (pe_callB call_isi (by rfl) T.b_isinstance (by decide +kernel) (pa_cons (pv 0) (pa_cons (pe_bltn (v := .ty "bool") (by rfl) T.b_bool (by decide +kernel) rfl) pa_nil)))))))), ?_⟩
    rcases h with ⟨i, rfl, rfl⟩ | ⟨x, rfl, rfl⟩ | ⟨t, ty, kt, rfl⟩
    · refine ⟨_, rfl, _, _, _, _, true, rfl, .ty "int", .base (.int i), kit_ty (by decide +kernel), _, rfl, ?_⟩
      refine iteT ?_
      exact ⟨_, rfl, _, _, _, _, false, rfl, .ty "bool", .base (.int i), kit_ty (by decide +kernel), _, rfl, k⟩
    · refine ⟨_, rfl, _, _, _, _, true, rfl, .ty "int", .base (.bl x), kit_ty (by decide +kernel), _, rfl, ?_⟩
      refine iteT ?_
      exact ⟨_, rfl, _, _, _, _, true, rfl, .ty "bool", .base (.bl x), kit_ty (by decide +kernel), _, rfl, k⟩
    · refine ⟨_, rfl, _, _, _, _, false, rfl, .ty "int", ty, kt, _, rfl, ?_⟩
      refine iteF ?_
      exact k
theorem r_is_int (T : TX K mg) : FnR P w K mg base CX0 1 T.f_is_int (spIsIntA K) := rawAll (ok_is_int T) (bd_is_int T.F_is_int)
theorem ok_Ratio___init__ (T : TX K mg) : FnOk P w K mg base (L2.CX P w) 2 T.f_Ratio___init__ T.d_Ratio___init__ ["self", "top", "bottom"] (spInitA K T.C_Ratio T.C_BadRatio) := by
  refine T.F_Ratio___init__.ok sc_Ratio___init__ (fun vs H Q E h => ?_) (fun cdv A out s H vs Q E hr h => ?_)
  · obtain ⟨x, dx, v, w, rfl, e, h⟩ := h
    rfl
  · obtain ⟨x, dx, v, w, rfl, e, h⟩ := h
    refine ⟨_, (pss_cons (ps_if (pt_not (pt_val (pe_callR (r_is_int T) (hr.mono (by decide)) (by rfl) T.m_is_int T.F_is_int.kp pass0 (pa_cons (pv 1) pa_nil)))) (pss_one (ps_raiseLowA rfl T.low_BadRatio hr (takes_of rfl rfl rfl rfl) (pa_cons pe_int pa_nil) (by rfl))) pss_nil)
 (pss_cons (ps_if (PW.pt (pw_or (pt_not (pt_val (pe_callR (r_is_int T) (hr.mono (by decide)) (by rfl) T.m_is_int T.F_is_int.kp pass0 (pa_cons (pv 2) pa_nil)))) (pw_or1 (pt_cmpR op_lt (pv 2) pe_int (nomark _))))) (pss_one (ps_raiseLowA rfl T.low_BadRatio hr (takes_of rfl rfl rfl rfl) (pa_cons pe_int pa_nil) (by rfl))) pss_nil)
 (pss_cons (ps_set (i := 3) sc_Ratio___init__.nd rfl (Or.inl rfl) (pe_callBfun cr_gcd (by rfl) T.m_gcd (pa_cons (pv 1) (pa_cons (pv 2) pa_nil))))
 (pss_cons (ps_fld (pv 0) (pe_op op_fdivW (pv 1) (pv 3)) rfl)
 (pss_one (ps_fld (pv 0) (pe_op op_fdivW (pv 2) (pv 3)) rfl)))))), ?_⟩
    rcases h with ⟨t, b, rfl, rfl, b0, st, sb, k⟩ | ⟨i, hb⟩ | ⟨t, rfl, i, hb⟩
    · refine ⟨_, rfl, _, _, rfl, .inl ⟨t, rfl, rfl⟩, _, rfl, ?_⟩
      refine iteF ?_
      refine ⟨_, rfl, _, _, rfl, .inl ⟨b, rfl, rfl⟩, _, rfl, ?_⟩
      refine iteF ?_
      refine ⟨_, rfl, _, _, rfl, rfl, _, rfl, ?_⟩
      refine no_if (dec_no (by omega)) ?_
      refine ⟨_, rfl, _, rfl, t, b, rfl, ?_⟩
      have g0 := gd_pos (t := t) b0
      have g1 : CDivW t (gd t b) := wide_div g0 (Nat.lt_of_le_of_lt (by have := gd_le (t := t) b0; omega) sb) (by decide) (by decide)
      have g2 : CDivW b (gd t b) := g1
      refine ⟨_, rfl, _, rfl, _, _, rfl, rfl, g1, _, rfl, x, T.C_Ratio, dx, _, rfl, e, T.rc.cls, T.rc.nT, (by show 0 < 1000; decide), ?_⟩
      refine ⟨_, rfl, _, rfl, _, _, rfl, rfl, g2, _, rfl, x, T.C_Ratio, dx, _, rfl, upd_same, T.rc.cls, T.rc.nB, (by show 1 < 1000; decide), ?_⟩
      show Q .non (upd (upd H x (.ins T.C_Ratio dx [(("top" : Str), V.int (lo t b))])) x (.ins T.C_Ratio dx (putF "bottom" (.int (lb t b)) [(("top" : Str), V.int (lo t b))])))
      rw [put_bottom]
      exact k
    · refine ⟨_, rfl, _, _, rfl, i, _, rfl, ?_⟩
      refine iteT ?_
      exact ⟨_, rfl, fun d nd => hb d _ (Same.new nd) upd_same⟩
    · refine ⟨_, rfl, _, _, rfl, .inl ⟨t, rfl, rfl⟩, _, rfl, ?_⟩
      refine iteF ?_
      rcases i with i | ⟨b, rfl, hb1⟩
      · refine ⟨_, rfl, _, _, rfl, i, _, rfl, ?_⟩
        refine iteT ?_
        refine iteT ?_
        exact ⟨_, rfl, fun d nd => hb d _ (Same.new nd) upd_same⟩
      · refine ⟨_, rfl, _, _, rfl, .inl ⟨b, rfl, rfl⟩, _, rfl, ?_⟩
        refine iteF ?_
        refine ⟨_, rfl, _, _, rfl, rfl, _, rfl, ?_⟩
        rw [decide_eq_true (show b < 1 from hb1)]
        refine iteT ?_
        exact ⟨_, rfl, fun d nd => hb d _ (Same.new nd) upd_same⟩
theorem ok_Ratio_of (T : TX K mg) : FnOk P w K mg base (L2.CX P w) 4 T.f_Ratio_of T.d_Ratio_of ["thing"] (spOfA K T.C_Ratio T.C_BadRatio) := by
  refine T.F_Ratio_of.okX sc_Ratio_of (fun vs H Q E h => ?_) (fun cdv A out s H vs Q E hr h => ?_)
  · obtain ⟨v, rfl, h⟩ := h
    rfl
  · obtain ⟨v, rfl, h⟩ := h
    refine ⟨_, (pss_cons (ps_if (pt_val (pe_callB call_isi (by rfl) T.b_isinstance (by decide +kernel) (pa_cons (pv 0) (pa_cons (pe_glob (v := .ref T.C_Ratio) (by rfl) T.m_Ratio rfl) pa_nil)))) (pss_one (ps_ret (pv 0))) pss_nil)
 (pss_one (ps_ret (pe_make (T.mk_Ratio) (ok_Ratio___init__ T) (hr.mono (by decide)) (by rfl) T.m_Ratio T.bd1.choose_spec.2 T.bd1.choose_spec.1 (passes_call (takes_of rfl rfl rfl rfl) (fun _ _ _ _ h => h)) (pa_cons (pv 0) pa_nil))))), ?_⟩
    rcases h with ⟨t, b, hn, st, k⟩ | ⟨t, ty, kt, i, hb⟩
    · rcases hn with ⟨a, rfl, dx, e⟩ | ⟨rfl, rfl⟩
      · refine ⟨_, rfl, _, _, _, _, true, rfl, .own _, T.rc.ty e, kit_self, _, rfl, ?_⟩
        refine iteT ?_
        exact ⟨_, rfl, k a H (Same.refl H) ⟨dx, e⟩⟩
      · refine ⟨_, rfl, _, _, _, _, false, rfl, .own _, .base (.int t), T.rc.k0, _, rfl, ?_⟩
        refine iteF ?_
        refine ⟨_, rfl, mkX (.inl ⟨t, 1, rfl, rfl, by decide, st, sm_1 (by decide), fun a H' s1 r => ?_⟩)⟩
        rw [low_lo (low_one t), low_lb (low_one t)] at r
        exact k a H' s1 r
    · refine ⟨_, rfl, _, _, _, _, false, rfl, .own _, ty, kt, _, rfl, ?_⟩
      refine iteF ?_
      exact ⟨_, rfl, mkX (.inr (.inl ⟨i, hb⟩))⟩
theorem r_Ratio_of (T : TX K mg) : FnR P w K mg base (L2.CX P w) 4 T.f_Ratio_of (spOfA K T.C_Ratio T.C_BadRatio) := rawAll (ok_Ratio_of T) (bd_Ratio_of T.F_Ratio_of)
theorem ok_Ratio_endless (T : TX K mg) : FnOk P w K mg base CX0 4 T.f_Ratio_endless T.d_Ratio_endless [] (spEnd0 T.C_Ratio) := by
  refine T.F_Ratio_endless.ok sc_Ratio_endless (fun vs H Q E h => ?_) (fun cdv A out s H vs Q E hr h => ?_)
  · obtain ⟨rfl, k⟩ := h
    rfl
  · obtain ⟨rfl, k⟩ := h
    refine ⟨_, (pss_cons (ps_set (i := 0) sc_Ratio_endless.nd rfl (Or.inl rfl) (pe_make (T.mk_Ratio) (ok_Ratio___init__ T) (hr.mono (by decide)) (by rfl) T.m_Ratio T.bd1.choose_spec.2 T.bd1.choose_spec.1 passX0 (pa_cons pe_int pa_nil)))
 (pss_cons (ps_fld (pv 0) pe_int rfl)
 (pss_one (ps_ret (pv 0))))), ?_⟩
    refine fun x dx nx nd ne => ⟨x, dx, .int 1, .int 1, rfl, upd_same, .inl ⟨1, 1, rfl, rfl, by decide, sm_1 (by decide), sm_1 (by decide), rfl, ?_⟩⟩
    obtain ⟨F, hF, s1, r1⟩ := newR_heap (C := T.C_Ratio) (t := 1) (b := 1) nx nd
    rw [← hF]
    rw [low_lo (low_one 1), low_lb (low_one 1)] at r1
    obtain ⟨dx1, e1⟩ := r1
    refine ⟨_, rfl, x, T.C_Ratio, dx1, _, rfl, e1, T.rc.cls, T.rc.nB, (by show 2 < 1000; decide), ?_⟩
    exact ⟨_, rfl, k x _ (same_mut s1 nx) ⟨dx1, upd_same⟩⟩
theorem r_Ratio_endless (T : TX K mg) : FnR P w K mg base CX0 4 T.f_Ratio_endless (spEnd0 T.C_Ratio) := rawAll (ok_Ratio_endless T) (bd_Ratio_endless T.F_Ratio_endless)
theorem ok_Ratio_is_endless (T : TX K mg) : FnOk P w K mg base CX0 1 T.f_Ratio_is_endless T.d_Ratio_is_endless ["self"] (spEndless T.C_Ratio) := by
  refine T.F_Ratio_is_endless.ok sc_Ratio_is_endless (fun vs H Q E h => ?_) (fun cdv A out s H vs Q E hr h => ?_)
  · obtain ⟨x, t, b, rfl, ⟨dx, e⟩, k⟩ := h
    rfl
  · obtain ⟨x, t, b, rfl, ⟨dx, e⟩, k⟩ := h
    refine ⟨_, (pss_one (ps_ret (pe_cmpR op_eq (pe_fld (pv 0) rfl) pe_int (nomark _)))), ?_⟩
    refine ⟨_, rfl, _, _, _, _, _, rfl, e, T.rc.cls, T.rc.nB, rfs_bottom _ _, rfl, ?_⟩
    rw [dec_int]
    exact k
theorem r_Ratio_is_endless (T : TX K mg) : FnR P w K mg base CX0 1 T.f_Ratio_is_endless (spEndless T.C_Ratio) := rawAll (ok_Ratio_is_endless T) (bd_Ratio_is_endless T.F_Ratio_is_endless)
theorem ok_Ratio___lt__ (T : TX K mg) : FnOk P w K mg base CX0 5 T.f_Ratio___lt__ T.d_Ratio___lt__ ["self", "other"] (spCmp T.C_Ratio (fun i j => decide (i < j))) := by
  refine T.F_Ratio___lt__.ok sc_Ratio___lt__ (fun vs H Q E h => ?_) (fun cdv A out s H vs Q E hr h => ?_)
  · obtain ⟨x, y, t, b, u, d, rfl, ⟨dx, e⟩, hn, st, sb, su, sd, k⟩ := h
    rfl
  · obtain ⟨x, y, t, b, u, d, rfl, ⟨dx, e⟩, hn, st, sb, su, sd, k⟩ := h
    refine ⟨_, (pss_cons (ps_set (i := 1) sc_Ratio___lt__.nd rfl (Or.inl rfl) (pe_smeth (pe_glob (v := .ref T.C_Ratio) (by rfl) T.m_Ratio rfl) T.st_of (r_Ratio_of T) (hr.mono (by decide)) passX0 (pa_cons (pv 1) pa_nil)))
 (pss_one (ps_ret (pe_cmpR op_lt (pe_op op_mulW (pe_fld (pv 0) rfl) (pe_fld (pv 1) rfl)) (pe_op op_mulW (pe_fld (pv 1) rfl) (pe_fld (pv 0) rfl)) (nomark _))))), ?_⟩
    refine ⟨rfl, _, rfl, _, rfl, .inl ⟨_, _, hn, sm_mono su (by decide), fun a H1 s1 r1 => ?_⟩⟩
    obtain ⟨dy, e2⟩ := r1
    have e1 := s1 _ _ e
    refine ⟨_, rfl, _, _, _, _, _, rfl, e1, T.rc.cls, T.rc.nT, rfs_top _ _, _, rfl, _, _, _, _, _, rfl, e2, T.rc.cls, T.rc.nB, rfs_bottom _ _, _, _, rfl, rfl, sm_cmul st sd (by decide) (by decide) (by decide), _, rfl, _, _, _, _, _, rfl, e2, T.rc.cls, T.rc.nT, rfs_top _ _, _, rfl, _, _, _, _, _, rfl, e1, T.rc.cls, T.rc.nB, rfs_bottom _ _, _, _, rfl, rfl, sm_cmul su sb (by decide) (by decide) (by decide), _, _, rfl, rfl, ?_⟩
    exact k H1 s1
theorem r_Ratio___lt__ (T : TX K mg) : FnR P w K mg base CX0 5 T.f_Ratio___lt__ (spCmp T.C_Ratio (fun i j => decide (i < j))) := rawAll (ok_Ratio___lt__ T) (bd_Ratio___lt__ T.F_Ratio___lt__)
theorem ok_Ratio___eq__ (T : TX K mg) : FnOk P w K mg base CX0 1 T.f_Ratio___eq__ T.d_Ratio___eq__ ["self", "other"] (spEqA K T.C_Ratio) := by
  refine T.F_Ratio___eq__.ok sc_Ratio___eq__ (fun vs H Q E h => ?_) (fun cdv A out s H vs Q E hr h => ?_)
  · obtain ⟨x, t, b, y, rfl, ⟨dx, e⟩, h⟩ := h
    rfl
  · obtain ⟨x, t, b, y, rfl, ⟨dx, e⟩, h⟩ := h
    refine ⟨_, (pss_one (ps_ret (pe_and (pe_callB call_isi (by rfl) T.b_isinstance (by decide +kernel) (pa_cons (pv 1) (pa_cons (pe_glob (v := .ref T.C_Ratio) (by rfl) T.m_Ratio rfl) pa_nil))) (pe_and (pe_cmpR op_eq (pe_fld (pv 0) rfl) (pe_fld (pv 1) rfl) (nomark _)) (pe_one (pe_cmpR op_eq (pe_fld (pv 0) rfl) (pe_fld (pv 1) rfl) (nomark _))))))), ?_⟩
    rcases h with ⟨a, u, d, rfl, ⟨dy, f⟩, k⟩ | ⟨c, ty, kt, k⟩
    · refine ⟨_, rfl, _, _, _, _, true, rfl, .own _, T.rc.ty f, kit_self, _, rfl, ?_⟩
      refine iteT ?_
      refine ⟨_, rfl, _, _, _, _, _, rfl, e, T.rc.cls, T.rc.nT, rfs_top _ _, _, rfl, _, _, _, _, _, rfl, f, T.rc.cls, T.rc.nT, rfs_top _ _, rfl, _, rfl, ?_⟩
      rw [dec_int]
      by_cases z : t = u
      · rw [decide_eq_true z]
        refine iteT ?_
        refine ⟨_, rfl, _, _, _, _, _, rfl, e, T.rc.cls, T.rc.nB, rfs_bottom _ _, _, rfl, _, _, _, _, _, rfl, f, T.rc.cls, T.rc.nB, rfs_bottom _ _, rfl, ?_⟩
        rw [dec_int]
        rw [show decide (t = u ∧ b = d) = decide (b = d) from by rw [decide_eq_decide]; exact ⟨fun y => y.2, fun y => ⟨z, y⟩⟩] at k
        exact k
      · rw [decide_eq_false z]
        refine iteF ?_
        rw [decide_eq_false (fun y => z y.1)] at k
        exact k
    · refine ⟨_, rfl, _, _, _, _, false, rfl, .own _, ty, kt, _, rfl, ?_⟩
      refine iteF ?_
      exact k
theorem r_Ratio___eq__ (T : TX K mg) : FnR P w K mg base CX0 1 T.f_Ratio___eq__ (spEqA K T.C_Ratio) := rawAll (ok_Ratio___eq__ T) (bd_Ratio___eq__ T.F_Ratio___eq__)
theorem ok_Ratio___str__ (T : TX K mg) : FnOk P w K mg base CX0 1 T.f_Ratio___str__ T.d_Ratio___str__ ["self"] (spStr T.C_Ratio txt) := by
  refine T.F_Ratio___str__.ok sc_Ratio___str__ (fun vs H Q E h => ?_) (fun cdv A out s H vs Q E hr h => ?_)
  · obtain ⟨x, t, b, rfl, ⟨dx, e⟩, st, sb, k⟩ := h
    rfl
  · obtain ⟨x, t, b, rfl, ⟨dx, e⟩, st, sb, k⟩ := h
    refine ⟨_, (pss_cons (ps_if (pt_cmpR op_eq (pe_fld (pv 0) rfl) pe_int (nomark _)) (pss_one (ps_ret pe_str)) pss_nil)
 (pss_cons (ps_if (pt_cmpR op_eq (pe_fld (pv 0) rfl) pe_int (nomark _)) (pss_one (ps_ret (pe_callTy call_str_int (by rfl) T.b_str (by decide +kernel) (pa_cons (pe_fld (pv 0) rfl) pa_nil)))) pss_nil)
 (pss_one (ps_ret (pe_joined (.cons (pe_fmt (pe_fld (pv 0) rfl)) (.cons pe_str (.cons (pe_fmt (pe_fld (pv 0) rfl)) .nil)))))))), ?_⟩
    refine ⟨_, rfl, _, _, _, _, _, rfl, e, T.rc.cls, T.rc.nB, rfs_bottom _ _, rfl, _, rfl, ?_⟩
    rw [dec_int]
    unfold txt at k
    by_cases z : b = 0
    · rw [decide_eq_true z]
      refine iteT ?_
      rw [if_pos z] at k
      exact k
    · rw [decide_eq_false z]
      refine iteF ?_
      rw [if_neg z] at k
      refine ⟨_, rfl, _, _, _, _, _, rfl, e, T.rc.cls, T.rc.nB, rfs_bottom _ _, rfl, _, rfl, ?_⟩
      rw [dec_int]
      by_cases y : b = 1
      · rw [decide_eq_true y]
        refine iteT ?_
        rw [if_pos y] at k
        exact ⟨_, rfl, _, _, _, _, _, rfl, e, T.rc.cls, T.rc.nT, rfs_top _ _, _, rfl, log_of st, k⟩
      · rw [decide_eq_false y]
        refine iteF ?_
        rw [if_neg y] at k
        have L1 := int_text_length_le (k := 1920) (by decide) (log_of st)
        have L2 := int_text_length_le (k := 1920) (by decide) (log_of sb)
        have L3 : (Str.ofString (toString t)).length ≤ 1921 := by rw [PySem.ofString_length]; omega
        have L4 : (Str.ofString (toString b)).length ≤ 1921 := by rw [PySem.ofString_length]; omega
        refine ⟨_, rfl, _, _, _, _, _, rfl, e, T.rc.cls, T.rc.nT, rfs_top _ _, .inr ⟨_, rfl, log_of st, _, rfl, by rw [sizeLine_eq, empty_app]; omega, ?_⟩⟩
        rw [empty_app]
        refine ⟨_, rfl, by rw [sizeLine_eq, strLen_append]; show _ + 1 ≤ _; omega, ?_⟩
        refine ⟨_, rfl, _, _, _, _, _, rfl, e, T.rc.cls, T.rc.nB, rfs_bottom _ _, .inr ⟨_, rfl, log_of sb, _, rfl, by rw [sizeLine_eq, strLen_append, strLen_append]; show _ + 1 + _ ≤ _; omega, ?_⟩⟩
        exact k
theorem r_Ratio___str__ (T : TX K mg) : FnR P w K mg base CX0 1 T.f_Ratio___str__ (spStr T.C_Ratio txt) := rawAll (ok_Ratio___str__ T) (bd_Ratio___str__ T.F_Ratio___str__)
theorem ok_Ratio___repr__ (T : TX K mg) : FnOk P w K mg base CX0 3 T.f_Ratio___repr__ T.d_Ratio___repr__ ["self"] (spStr T.C_Ratio reprR) := by
  refine T.F_Ratio___repr__.ok sc_Ratio___repr__ (fun vs H Q E h => ?_) (fun cdv A out s H vs Q E hr h => ?_)
  · obtain ⟨x, t, b, rfl, ⟨dx, e⟩, st, sb, k⟩ := h
    rfl
  · obtain ⟨x, t, b, rfl, ⟨dx, e⟩, st, sb, k⟩ := h
    refine ⟨_, (pss_one (ps_ret (pe_joined (.cons pe_str (.cons (pe_fmtO T.st.1 T.st.2 T.fmt T.rc.cm (r_Ratio___str__ T) (hr.mono (by decide)) pass0 (pv 0)) (.cons pe_str .nil)))))), ?_⟩
    have L := txt_len st sb
    refine ⟨_, rfl, by rw [sizeLine_eq, empty_app]; show 6 ≤ _; omega, ?_⟩
    rw [empty_app]
    refine ⟨_, rfl, ⟨x, dx, _, rfl, e⟩, x, t, b, rfl, ⟨dx, e⟩, st, sb, _, rfl, _, rfl, by rw [sizeLine_eq, strLen_append]; show 6 + _ ≤ _; omega, ?_⟩
    exact ⟨_, rfl, by rw [sizeLine_eq, strLen_append, strLen_append]; show 6 + _ + 1 ≤ _; omega, k⟩
theorem r_Ratio___repr__ (T : TX K mg) : FnR P w K mg base CX0 3 T.f_Ratio___repr__ (spStr T.C_Ratio reprR) := rawAll (ok_Ratio___repr__ T) (bd_Ratio___repr__ T.F_Ratio___repr__)
theorem ok_is_name (T : TX K mg) : FnOk P w K mg base CX0 1 T.f_is_name T.d_is_name ["thing"] (spIsName K) := by
  refine T.F_is_name.ok sc_is_name (fun vs H Q E h => ?_) (fun cdv A out s H vs Q E hr h => ?_)
  · obtain ⟨v, b, rfl, hb, k⟩ := h
    rfl
  · obtain ⟨v, b, rfl, hb, k⟩ := h
    refine ⟨_, (pss_cons (ps_if (PW.pt (pw_or (pt_not (pt_val (pe_callB call_isi (by rfl) T.b_isinstance (by decide +kernel) (pa_cons (pv 0) (pa_cons (pe_bltn (v := .ty "str") (by rfl) T.b_str (by decide +kernel) rfl) pa_nil))))) (pw_or1 (pt_not (pt_chain op_le op_le pe_int (pe_callB call_len_str (by rfl) T.b_len PySem.boot_len (pa_cons (pv 0) pa_nil)) (pe_glob (v := .int 8) (by rfl) T.m_LONGEST ⟨_, rfl⟩)))))) (pss_one (ps_ret pe_bl)) pss_nil)
 (pss_one (ps_ret (pe_and (pe_cmpR op_notIn_seq (pv 0) (pe_glob (v := .ref T.a_RESERVED) (by rfl) T.m_RESERVED rfl) (by rfl)) (pe_and (pe_bm0 PySem.F.plainAttrs_str PySem.F.slot_str_isascii PySem.F.type_str_isascii mt_isascii (pv 0)) (pe_and (pe_bm0 PySem.F.plainAttrs_str PySem.F.slot_str_isalpha PySem.F.type_str_isalpha mt_isalpha (pv 0)) (pe_one (pe_bm0 PySem.F.plainAttrs_str PySem.F.slot_str_islower PySem.F.type_str_islower mt_islower (pv 0))))))))), ?_⟩
    have key : (∃ x, v = .str x ∧ x.length ≤ sizeLine ∧ b = isName x) ∨ (NoStr K H v ∧ b = false) := by
      rcases hb with ⟨rfl, x, rfl, xl, xn⟩ | ⟨rfl, ⟨x, rfl, xl, xn⟩ | h⟩
      · exact .inl ⟨x, rfl, xl, xn.symm⟩
      · exact .inl ⟨x, rfl, xl, xn.symm⟩
      · exact .inr ⟨h, rfl⟩
    rcases key with ⟨x, rfl, xl, rfl⟩ | ⟨⟨t, ty, kt⟩, rfl⟩
    · refine ⟨_, rfl, _, _, _, _, true, rfl, .ty "str", .base (.str x), kit_ty (by decide +kernel), _, rfl, ?_⟩
      refine iteF ?_
      refine ⟨_, rfl, x, rfl, xl, _, _, rfl, rfl, _, rfl, ?_⟩
      have FIN : decide ((1 : Int) ≤ (x.length : Int)) = true → decide ((x.length : Int) ≤ 8) = true → Q (.bl ((!inV (.str x) resV) && (Txt.isascii x && (Txt.isalpha x && Txt.islower x)))) H := fun h1 h2 => by
        have e : isName x = ((!inV (.str x) resV) && (Txt.isascii x && (Txt.isalpha x && Txt.islower x))) := by unfold isName; rw [h1, h2]; rfl
        rw [← e]; exact k
      have NO : (decide ((1 : Int) ≤ (x.length : Int)) && decide ((x.length : Int) ≤ 8)) = false → Q (.bl false) H := fun h1 => by
        have e : isName x = false := by unfold isName; rw [h1]; rfl
        rw [← e]; exact k
      cases h1 : decide ((1 : Int) ≤ (x.length : Int)) with
      | false =>
        refine iteF ?_
        refine ⟨_, rfl, ?_⟩
        refine iteT ?_
        exact NO (by rw [h1]; rfl)
      | true =>
        refine iteT ?_
        refine ⟨_, _, rfl, rfl, _, rfl, ?_⟩
        cases h2 : decide ((x.length : Int) ≤ 8) with
        | false =>
          refine iteT ?_
          exact NO (by rw [h1, h2]; rfl)
        | true =>
          refine iteF ?_
          have k := FIN h1 h2
          refine ⟨_, rfl, _, resV, rfl, .inr (T.resT H), rfl, rfl, _, rfl, ?_⟩
          cases h3 : inV (.str x) resV with
          | true =>
            rw [h3] at k
            exact k
          | false =>
            rw [h3] at k
            refine iteT ?_
            refine ⟨_, rfl, rfl, x, rfl, rfl, trivial, _, rfl, ?_⟩
            cases h4 : Txt.isascii x with
            | false =>
              rw [h4] at k
              exact k
            | true =>
              rw [h4] at k
              refine iteT ?_
              refine ⟨_, rfl, rfl, x, rfl, rfl, trivial, _, rfl, ?_⟩
              cases h5 : Txt.isalpha x with
              | false =>
                rw [h5] at k
                exact k
              | true =>
                rw [h5] at k
                refine iteT ?_
                exact ⟨_, rfl, rfl, x, rfl, rfl, trivial, k⟩
    · refine ⟨_, rfl, _, _, _, _, false, rfl, .ty "str", ty, kt, _, rfl, ?_⟩
      refine iteT ?_
      refine iteT ?_
      exact k
theorem r_is_name (T : TX K mg) : FnR P w K mg base CX0 1 T.f_is_name (spIsName K) := rawAll (ok_is_name T) (bd_is_name T.F_is_name)
theorem ok_value_of (T : TX K mg) : FnOk P w K mg base CX0 6 T.f_value_of T.d_value_of ["thing"] (spValueOf K T.C_Ratio) := by
  refine T.F_value_of.ok sc_value_of (fun vs H Q E h => ?_) (fun cdv A out s H vs Q E hr h => ?_)
  · obtain ⟨w, rfl, hw⟩ := h
    rfl
  · obtain ⟨w, rfl, hw⟩ := h
    refine ⟨_, (pss_cons (ps_if (PW.pt (pw_and (pt_not (pt_val (pe_callR (r_is_int T) (hr.mono (by decide)) (by rfl) T.m_is_int T.F_is_int.kp pass0 (pa_cons (pv 0) pa_nil)))) (pw_and1 (pt_not (pt_val (pe_callB call_isi (by rfl) T.b_isinstance (by decide +kernel) (pa_cons (pv 0) (pa_cons (pe_glob (v := .ref T.C_Ratio) (by rfl) T.m_Ratio rfl) pa_nil)))))))) (pss_one (ps_ret pe_non)) pss_nil)
 (pss_cons (ps_set (i := 1) sc_value_of.nd rfl (Or.inl rfl) (pe_smeth (pe_glob (v := .ref T.C_Ratio) (by rfl) T.m_Ratio rfl) T.st_of (r_Ratio_of T) (hr.mono (by decide)) passX0 (pa_cons (pv 0) pa_nil)))
 (pss_one (ps_ret (pe_ifExp (PW.pt (pw_or (pt_val (pe_prop (pv 1) T.rc.cls T.pr_is_endless (ok_Ratio_is_endless T) (hr.mono (by decide)) (bd_Ratio_is_endless T.F_Ratio_is_endless) .nil pass0 rfl)) (pw_or1 (pt_cmpR (op_cmpL (fun _ _ => rfl) T.lt.1 T.lt.2 T.n1 T.n2 (r_Ratio___lt__ T) (hr.mono (by decide)) pass0) (pv 1) pe_int (nomark _))))) pe_non (pv 1)))))), ?_⟩
    have key : (∃ t b, NumV T.C_Ratio H w t b ∧ Sm 200 t ∧ Sm 200 b ∧ ∀ a H1, Same H H1 → RatAt T.C_Ratio H1 a t b → ((b = 0 ∨ (0 < b ∧ t < 0)) ∧ (∀ H', Same H1 H' → Q .non H')) ∨ (0 < b ∧ 0 ≤ t ∧ ∀ H', Same H1 H' → Q (.ref a) H')) ∨ (NotNum K T.C_Ratio H w ∧ Q .non H) := by
      rcases hw with ⟨q, ⟨hn, g0, g1, g2, g3⟩, k⟩ | ⟨⟨t, b, hn, st, sb, h⟩ | h, k⟩
      · exact .inl ⟨_, _, hn, g2, g3, fun a H1 s1 r1 => .inr ⟨g1.1, g0, fun H' s2 => k a H' (s1.trans s2) (r1.same s2)⟩⟩
      · exact .inl ⟨_, _, hn, sm_mono st (by decide), sm_mono sb (by decide), fun a H1 s1 r1 => .inl ⟨h, fun H' s2 => k H' (s1.trans s2)⟩⟩
      · exact .inr ⟨h, k H (Same.refl H)⟩
    rcases key with ⟨t, b, hn, st, sb, k⟩ | ⟨⟨hi, ty, h1, h2⟩, k⟩
    · rcases id hn with ⟨x, rfl, dx0, e0⟩ | ⟨rfl, rfl⟩
      · refine ⟨_, rfl, .ref x, false, rfl, .inr (.inr ⟨_, T.rc.ty e0, T.kRI, rfl⟩), ?_⟩
        refine ⟨_, rfl, ?_⟩
        refine iteT ?_
        refine ⟨_, rfl, _, _, _, _, true, rfl, .own _, T.rc.ty e0, kit_self, _, rfl, ?_⟩
        refine iteF ?_
        refine ⟨rfl, _, rfl, _, rfl, .inl ⟨_, _, hn, sm_mono st (by decide), fun a H1 s1 r1 => ?_⟩⟩
        have k := k a H1 s1 r1
        obtain ⟨dx, e1⟩ := r1
        refine ⟨_, rfl, a, dx, _, rfl, e1, a, t, b, rfl, ⟨dx, e1⟩, _, rfl, ?_⟩
        rcases k with ⟨h, k⟩ | ⟨b0, t0, k⟩
        · by_cases z : b = 0
          · rw [decide_eq_true z]
            refine iteT ?_
            refine iteT ?_
            exact k _ (Same.refl _)
          · rw [decide_eq_false z]
            refine iteF ?_
            refine ⟨_, rfl, ⟨a, dx, _, rfl, e1⟩, .inl ⟨0, rfl⟩, a, _, t, b, 0, 1, rfl, ⟨dx, e1⟩, .inr ⟨rfl, rfl⟩, sm_mono st (by decide), sm_mono sb (by decide), sm_0, sm_1 (by decide), fun H2 s2 => ?_⟩
            refine ⟨_, rfl, ?_⟩
            refine ite2 (fun _ => ?_) (fun h => absurd (show t * 1 < 0 * b by omega) (no_dec h))
            exact k _ s2
        · rw [decide_eq_false (show ¬ b = 0 by omega)]
          refine iteF ?_
          refine ⟨_, rfl, ⟨a, dx, _, rfl, e1⟩, .inl ⟨0, rfl⟩, a, _, t, b, 0, 1, rfl, ⟨dx, e1⟩, .inr ⟨rfl, rfl⟩, sm_mono st (by decide), sm_mono sb (by decide), sm_0, sm_1 (by decide), fun H2 s2 => ?_⟩
          refine ⟨_, rfl, ?_⟩
          refine ite2 (fun h => absurd (of_decide_eq_true h) (show ¬ t * 1 < 0 * b by omega)) (fun _ => ?_)
          exact ⟨_, rfl, k _ s2⟩
      · generalize hb1 : (1 : Int) = b at hn k sb
        refine ⟨_, rfl, .int t, true, rfl, .inl ⟨_, rfl, rfl⟩, ?_⟩
        refine ⟨_, rfl, ?_⟩
        refine iteF ?_
        refine iteF ?_
        refine ⟨rfl, _, rfl, _, rfl, .inl ⟨_, _, hn, sm_mono st (by decide), fun a H1 s1 r1 => ?_⟩⟩
        have k := k a H1 s1 r1
        obtain ⟨dx, e1⟩ := r1
        refine ⟨_, rfl, a, dx, _, rfl, e1, a, t, b, rfl, ⟨dx, e1⟩, _, rfl, ?_⟩
        rcases k with ⟨h, k⟩ | ⟨b0, t0, k⟩
        · by_cases z : b = 0
          · rw [decide_eq_true z]
            refine iteT ?_
            refine iteT ?_
            exact k _ (Same.refl _)
          · rw [decide_eq_false z]
            refine iteF ?_
            refine ⟨_, rfl, ⟨a, dx, _, rfl, e1⟩, .inl ⟨0, rfl⟩, a, _, t, b, 0, 1, rfl, ⟨dx, e1⟩, .inr ⟨rfl, rfl⟩, sm_mono st (by decide), sm_mono sb (by decide), sm_0, sm_1 (by decide), fun H2 s2 => ?_⟩
            refine ⟨_, rfl, ?_⟩
            refine ite2 (fun _ => ?_) (fun h => absurd (show t * 1 < 0 * b by omega) (no_dec h))
            exact k _ s2
        · rw [decide_eq_false (show ¬ b = 0 by omega)]
          refine iteF ?_
          refine ⟨_, rfl, ⟨a, dx, _, rfl, e1⟩, .inl ⟨0, rfl⟩, a, _, t, b, 0, 1, rfl, ⟨dx, e1⟩, .inr ⟨rfl, rfl⟩, sm_mono st (by decide), sm_mono sb (by decide), sm_0, sm_1 (by decide), fun H2 s2 => ?_⟩
          refine ⟨_, rfl, ?_⟩
          refine ite2 (fun h => absurd (of_decide_eq_true h) (show ¬ t * 1 < 0 * b by omega)) (fun _ => ?_)
          exact ⟨_, rfl, k _ s2⟩
    · refine ⟨_, rfl, w, false, rfl, hi, ?_⟩
      refine ⟨_, rfl, ?_⟩
      refine iteT ?_
      refine ⟨_, rfl, _, _, _, _, false, rfl, .own _, h1, h2.1, _, rfl, ?_⟩
      refine iteT ?_
      exact k
theorem r_value_of (T : TX K mg) : FnR P w K mg base CX0 6 T.f_value_of (spValueOf K T.C_Ratio) := rawAll (ok_value_of T) (bd_value_of T.F_value_of)
theorem ok_Values___init__ (T : TX K mg) : FnOk P w K mg base (L2.CX P w) 9 T.f_Values___init__ T.d_Values___init__ ["self", "numbers"] (spVInitE K T.C_Values T.C_Ratio T.C_BadName T.C_BadValue) := by
  refine T.F_Values___init__.ok sc_Values___init__ (fun vs H Q E h => ?_) (fun cdv A out s H vs Q E hr h => ?_)
  · obtain ⟨x, dx, n, kvs, fk, T0, rfl, ei, hn, kok, kl, k⟩ := h
    rfl
  · obtain ⟨x, dx, n, kvs, fk, T0, rfl, ei, hn, kok, kl, k⟩ := h
    refine ⟨_, (C8.pss_cut (ps_set (i := 2) sc_Values___init__.nd rfl (Or.inr rfl) (pe_ifExp (pt_cmpR op_isN (pv 1) pe_non (nomark _)) pe_dnewK (pv 1)))
 (pss_cons (ps_set (i := 3) sc_Values___init__.nd rfl (Or.inl rfl) (pe_callBK (cr_sortKS (hu2_of hr)) (by rfl) T.b_sorted (by decide +kernel) (pa_cons (pe_callTy (call_listD rfl) (by rfl) T.b_list (by decide +kernel) (pa_cons (pv 2) pa_nil)) pa_nil) (pk_cons (pe_bltn (v := .ty "str") (by rfl) T.b_str (by decide +kernel) rfl) pk_nil)))
 (pss_cons (ps_for (passes_of rfl) rfl (pi_list (pv 3)) (pg_name (i := 4) sc_Values___init__.nd rfl (Or.inl rfl))
 (pss_one (ps_if (pt_not (pt_val (pe_callR (r_is_name T) (hr.mono (by decide)) (by rfl) T.m_is_name T.F_is_name.kp pass0 (pa_cons (pv 4) pa_nil)))) (pss_one (ps_raiseLowN rfl T.low_BadName hr (takes_of rfl rfl rfl rfl) (pa_cons (pv 4) pa_nil) (by rfl))) pss_nil)))
 (pss_cons (ps_for (passes_of rfl) rfl (pi_list (pv 3)) (pg_name (i := 4) sc_Values___init__.nd rfl (Or.inl rfl))
 (pss_one (ps_if (pt_cmpR op_isN (pe_callR (r_value_of T) (hr.mono (by decide)) (by rfl) T.m_value_of T.F_value_of.kp pass0 (pa_cons (pe_dget (hu_of hr) (pv 2) (pv 4) (fun _ _ => rfl)) pa_nil)) pe_non (nomark _)) (pss_one (ps_raiseLowN rfl T.low_BadValue hr (takes_of rfl rfl rfl rfl) (pa_cons (pv 4) pa_nil) (by rfl))) pss_nil)))
 (pss_cons (ps_fld (pv 0) (pe_dc (own := [("name", 4)]) (g := gName 4) (tt := tYes) (by rfl) sc_Values___init__.nd (pi_list (pv 3)) (blkOk_by (own := [("name", 4)]) (N := N_Values___init__) (sc := defScope s_Values___init__) (by decide +kernel)) (fun _ _ _ _ _ => (pg_name (i := 4) sc_Values___init__.nd rfl (Or.inl rfl))) (fun _ _ _ _ _ => pts_nil) (fun _ _ _ _ _ => (pv 4)) (fun _ _ _ _ _ => (pe_callR (r_value_of T) (hr.mono (by decide)) (by rfl) T.m_value_of T.F_value_of.kp pass0 (pa_cons (pe_dget (hu_of hr) (pv 2) (pv 4) (fun _ _ => rfl)) pa_nil)))) rfl)
 (pss_one (ps_fld (pv 0) pe_non rfl))))))), ?_⟩
    refine ⟨fun σ' H' => ∃ f, σ' = [some (.ref x), some n, some (.ref f), none, none] ∧ Same H H' ∧ H' f = some (.dK kvs) ∧ Dct (GivR K T.C_Ratio H') kvs fk T0, ?_, ?_⟩
    · rcases hn with ⟨f, rfl, ef, D⟩ | ⟨rfl, rfl, rfl, rfl⟩
      · refine ⟨_, rfl, rfl, _, rfl, ?_⟩
        rw [decide_eq_false (show V.ref f ≠ V.non by intro z; cases z)]
        refine iteF ?_
        refine ⟨_, rfl, ?_⟩
        exact ⟨f, rfl, Same.refl H, ef, D⟩
      · refine ⟨_, rfl, rfl, _, rfl, ?_⟩
        rw [decide_eq_true rfl]
        refine iteT ?_
        refine fun q nq => ?_
        exact ⟨q, rfl, Same.new nq, upd_same, Dct.nil⟩
    rintro σ0 H0 ⟨f, rfl, s0, ef, D⟩
    have ei0 := s0 _ _ ei
    refine ⟨_, rfl, f, kvs, rfl, .inl ef, fun l nl => ?_⟩
    rw [D.strs]
    refine ⟨rfl, l, fk, rfl, SqL.of upd_same, fun p np => ?_⟩
    have S2 : Same H0 (upd (upd H0 l (.lst (fk.map V.str))) p (.lst ((srtS fk).map V.str))) := (Same.new nl).trans (Same.new np)
    have hp : upd (upd H0 l (.lst (fk.map V.str))) p (.lst ((srtS fk).map V.str)) p = some (.lst ((srtS fk).map V.str)) := upd_same
    generalize upd (upd H0 l (.lst (fk.map V.str))) p (.lst ((srtS fk).map V.str)) = H2 at S2 hp ⊢
    clear np nl
    have val : ∀ nm, nm ∈ srtS fk → ∃ q v, T0 nm = some q ∧ valV kvs (Sum.inr nm) = some v ∧ GivR K T.C_Ratio H0 v q := fun nm h => by
      obtain ⟨q, e⟩ := Option.isSome_iff_exists.mp ((D.dom nm).mp (srtS_mem.mp h))
      obtain ⟨v, e1, e2⟩ := D.val nm q e
      exact ⟨q, v, e, e1, e2⟩
    have len16 : ∀ nm, nm ∈ srtS fk → nm.length ≤ sizeLine := fun nm h => by
      rcases kok nm (srtS_mem.mp h) with h | h
      · exact le_line8 (words_ln nm h)
      · exact le_line16 h.2
    refine ⟨_, rfl, p, rfl, ⟨_, SqL.of hp⟩, ?_⟩
    unfold Takes at k
    cases f1 : (srtS fk).find? oddN with
    | some nm1 =>
      rw [f1] at k
      obtain ⟨i1, a1, b1, c1⟩ := find_first f1
      refine for_list (xs := (srtS fk).map V.str) (fun i σ H' => i ≤ i1 ∧ ∃ e, σ = [some (.ref x), some n, some (.ref f), some (.ref p), e] ∧ H2 = H') ⟨Nat.zero_le _, _, rfl, rfl⟩ (fun i σ H' _ z => by obtain ⟨_, _, _, rfl⟩ := z; exact SqL.of hp) ?_ ?_
      · rintro i y σ H' hy ⟨li, e, rfl, rfl⟩
        obtain ⟨nm, en, rfl, hm⟩ := at_strs hy
        by_cases z : i = i1
        · subst z
          rw [a1] at en
          cases en
          have bad : isName nm1 = false := by
            cases h : isName nm1 with
            | false => rfl
            | true => unfold oddN at b1; rw [h] at b1; cases b1
          refine ⟨_, rfl, .str nm1, false, rfl, .inr ⟨rfl, .inl ⟨nm1, rfl, len16 nm1 hm, bad⟩⟩, _, rfl, ?_⟩
          refine iteT ?_
          exact ⟨_, rfl, _, rfl, fun d nd => k d _ ((s0.trans S2).trans (Same.new nd)) upd_same⟩
        · have h0 := c1 i nm (by omega) en
          have good : isName nm = true := by
            cases h : isName nm with
            | true => rfl
            | false => unfold oddN at h0; rw [h] at h0; cases h0
          refine ⟨_, rfl, .str nm, true, rfl, .inl ⟨rfl, nm, rfl, len16 nm hm, good⟩, _, rfl, ?_⟩
          exact ⟨by omega, _, rfl, rfl⟩
      rintro σ H' ⟨li, _⟩
      have := (List.getElem?_eq_some_iff.mp a1).1
      rw [List.length_map] at li
      omega
    | none =>
      rw [f1] at k
      have good : ∀ nm, nm ∈ srtS fk → isName nm = true := fun nm h => by
        have h0 := find_none f1 nm h
        cases h : isName nm with
        | true => rfl
        | false => unfold oddN at h0; rw [h] at h0; cases h0
      refine for_list (xs := (srtS fk).map V.str) (fun i σ H' => ∃ e, σ = [some (.ref x), some n, some (.ref f), some (.ref p), e] ∧ H2 = H') ⟨_, rfl, rfl⟩ (fun i σ H' _ z => by obtain ⟨_, _, rfl⟩ := z; exact SqL.of hp) ?_ ?_
      · rintro i y σ H' hy ⟨e, rfl, rfl⟩
        obtain ⟨nm, _, rfl, hm⟩ := at_strs hy
        refine ⟨_, rfl, .str nm, true, rfl, .inl ⟨rfl, nm, rfl, len16 nm hm, good nm hm⟩, _, rfl, ?_⟩
        exact ⟨_, rfl, rfl⟩
      rintro σ H' ⟨e, rfl, rfl⟩
      refine ⟨_, rfl, p, rfl, ⟨_, SqL.of hp⟩, ?_⟩
      cases f2 : (srtS fk).find? (badAt T0) with
      | some nm2 =>
        rw [f2] at k
        obtain ⟨i1, a1, b1, c1⟩ := find_first f2
        refine for_list (xs := (srtS fk).map V.str) (fun i σ H' => i ≤ i1 ∧ ∃ e, σ = [some (.ref x), some n, some (.ref f), some (.ref p), e] ∧ Same H2 H') ⟨Nat.zero_le _, _, rfl, Same.refl _⟩ (fun i σ H' _ z => by obtain ⟨_, _, _, s⟩ := z; exact SqL.of (s _ _ hp)) ?_ ?_
        · rintro i y σ H' hy ⟨li, e, rfl, s3⟩
          obtain ⟨nm, en, rfl, hm⟩ := at_strs hy
          obtain ⟨q, v, e1, e2, hn0⟩ := val nm hm
          have S3 := S2.trans s3
          have hg : DGet H' f (.str nm) (some v) := by rw [← e2]; exact DGet.k (k := Sum.inr nm) (S3 _ _ ef)
          have hn1 := hn0.same S3
          by_cases z : i = i1
          · subst z
            rw [a1] at en
            cases en
            have hb : BadNum K T.C_Ratio H' v := by
              rcases hn1 with g | g
              · exact absurd (of_decide_eq_true b1) (fun z => good_ne g.2 (by rw [e1] at z; exact Option.some.inj z))
              · exact g.2
            refine ⟨_, rfl, _, rfl, f, v, rfl, hg, v, rfl, .inr ⟨hb, fun H4 s4 => ?_⟩⟩
            refine ⟨rfl, _, rfl, ?_⟩
            rw [decide_eq_true rfl]
            refine iteT ?_
            exact ⟨_, rfl, _, rfl, fun d nd => k d _ ((s0.trans (S3.trans s4)).trans (Same.new nd)) upd_same⟩
          · have hq := c1 i nm (by omega) en
            have hg2 : GoodNum T.C_Ratio H' v q := by
              rcases hn1 with g | g
              · exact g
              · exact absurd (show badAt T0 nm = true from decide_eq_true (by rw [e1, g.1])) (by rw [hq]; decide)
            refine ⟨_, rfl, _, rfl, f, v, rfl, hg, v, rfl, .inl ⟨q, hg2, fun a H4 s4 r4 => ?_⟩⟩
            refine ⟨rfl, _, rfl, ?_⟩
            rw [decide_eq_false (show V.ref a ≠ V.non by intro z; cases z)]
            exact ⟨by omega, _, rfl, s3.trans s4⟩
        rintro σ H' ⟨li, _⟩
        have := (List.getElem?_eq_some_iff.mp a1).1
        rw [List.length_map] at li
        omega
      | none =>
        rw [f2] at k
        have gd1 : ∀ nm q v, nm ∈ srtS fk → T0 nm = some q → GivR K T.C_Ratio H0 v q → GoodNum T.C_Ratio H0 v q := fun nm q v hm e1 h => by
          rcases h with g | g
          · exact g
          · exact absurd (show badAt T0 nm = true from decide_eq_true (by rw [e1, g.1])) (by rw [find_none f2 nm hm]; decide)
        have memk : ∀ nm q, T0 nm = some q → nm ∈ srtS fk := fun nm q e => srtS_mem.mpr ((D.dom nm).mpr (by rw [e]; rfl))
        have DG : Dct (fun v q => GoodNum T.C_Ratio H0 v q) kvs fk T0 := ⟨D.keys, D.nd, D.dom, fun nm q e => by
          obtain ⟨v, e1, e2⟩ := D.val nm q e
          exact ⟨v, e1, gd1 nm q v (memk nm q e) e e2⟩⟩
        have gt : GT T0 := ⟨fun nm q e => by
          rcases kok nm (srtS_mem.mp (memk nm q e)) with h | h
          · exact h
          · exact absurd (good nm (memk nm q e)) (by rw [h.1]; decide), fun nm q e => by
          obtain ⟨v, _, g⟩ := DG.val nm q e
          exact g.2⟩
        have valG : ∀ nm, nm ∈ srtS fk → ∃ q v, T0 nm = some q ∧ valV kvs (Sum.inr nm) = some v ∧ GoodNum T.C_Ratio H0 v q := fun nm h => by
          obtain ⟨q, v, e, e1, e2⟩ := val nm h
          exact ⟨q, v, e, e1, gd1 nm q v h e e2⟩
        refine for_list (xs := (srtS fk).map V.str) (fun i σ H' => ∃ e, σ = [some (.ref x), some n, some (.ref f), some (.ref p), e] ∧ Same H2 H') ⟨_, rfl, Same.refl _⟩ (fun i σ H' _ z => by obtain ⟨_, _, s⟩ := z; exact SqL.of (s _ _ hp)) ?_ ?_
        · rintro i y σ H' hy ⟨e, rfl, s3⟩
          obtain ⟨nm, _, rfl, hm⟩ := at_strs hy
          obtain ⟨q, v, e1, e2, hn0, gv⟩ := valG nm hm
          have S3 := S2.trans s3
          refine ⟨_, rfl, _, rfl, f, v, rfl, (by rw [← e2]; exact DGet.k (k := Sum.inr nm) (S3 _ _ ef)), v, rfl, .inl ⟨q, ⟨hn0.same S3, gv⟩, fun a H4 s4 r4 => ?_⟩⟩
          refine ⟨rfl, _, rfl, ?_⟩
          rw [decide_eq_false (show V.ref a ≠ V.non by intro z; cases z)]
          exact ⟨_, rfl, s3.trans s4⟩
        rintro σ H' ⟨e, rfl, s3⟩
        have hp3 := s3 _ _ hp
        have S3 := S2.trans s3
        clear s3 S2 hp
        have nd : (srtS fk).Nodup := (srtS_perm fk).nodup_iff.mpr D.nd
        refine ⟨_, rfl, p, rfl, ⟨_, SqL.of hp3⟩, fun E nE => ?_⟩
        refine dc_it (walk_list (K := K) (a := p) (xs := (srtS fk).map V.str)) (fun i H4 => Same H' H4 ∧ ∃ kv, H4 E = some (.dK kv) ∧ Dct (RV T.C_Ratio H4) kv ((srtS fk).take i) (partT T0 ((srtS fk).take i))) ⟨Same.new nE, [], upd_same, by
            rw [List.take_zero, show partT T0 [] = fun _ => none from by funext y; exact if_neg (by simp)]
            exact Dct.nil⟩ (fun i H4 _ z => SqL.of (z.1 _ _ hp3)) ?_ ?_
        · rintro i y H4 H5 hi ⟨s4, kv, hE, D4⟩ ⟨rfl, hy⟩
          obtain ⟨nm, en, rfl, hm⟩ := at_strs hy
          obtain ⟨q, v, e1, e2, hn0, gv⟩ := valG nm hm
          have S4 := S3.trans s4
          refine ⟨rfl, _, rfl, ?_⟩
          refine ⟨_, rfl, _, rfl, f, v, rfl, (by rw [← e2]; exact DGet.k (k := Sum.inr nm) (S4 _ _ ef)), v, rfl, .inl ⟨q, ⟨hn0.same S4, gv⟩, fun a H6 s6 r6 => ?_⟩⟩
          have hE6 := s6 _ _ hE
          have l4 := D4.len
          have l5 : ((srtS fk).take i).length ≤ 12 := by
            rw [List.length_take, srtS_len]
            omega
          have ks := List.take_add_one (l := srtS fk) (i := i)
          rw [en] at ks
          refine ⟨kv, Sum.inr nm, rfl, hE6, lt_line (by omega), same_mut (s4.trans s6) nE, _, upd_same, ?_⟩
          rw [ks, show (some nm).toList = [nm] from rfl, partT_snoc e1]
          have st : StayR T.C_Ratio H6 (upd H6 E (.dK (putK kv (Sum.inr nm) (.ref a)))) := fun c dx t b h => hp_mut h (ne_of h hE6 fun z => by cases z)
          exact (D4.imp fun v q r => (r.stay (.same s6)).stay st).putNew (RV.stay st ⟨a, rfl, r6⟩) (nodup_take nd en)
        rintro H4 ⟨s4, kv, hE, D4⟩
        rw [List.length_map, List.take_length, partT_all (fun y => srtS_mem.trans (D.dom y))] at D4
        have S4 := S3.trans s4
        have ex := S4 _ _ ei0
        have nxE : E ≠ x := (ne_of ex hE (by intro z; cases z)).symm
        refine ⟨_, rfl, x, T.C_Values, dx, _, rfl, ex, T.vc, T.nTold, (by show 0 < 1000; decide), ?_⟩
        refine ⟨_, rfl, x, T.C_Values, dx, _, rfl, upd_same, T.vc, T.nUnt, (by show 1 < 1000; decide), ?_⟩
        have st : StayR T.C_Ratio H4 (upd (upd H4 x (.ins T.C_Values dx [("told", V.ref E)])) x (.ins T.C_Values dx [("told", V.ref E), ("untold", V.non)])) := fun c dy t b h => by
          have n : c ≠ x := ne_of h ex fun z => by
            have := (HO.ins.inj z).2.2
            cases this
          exact hp_mut (hp_mut h n) n
        refine k E (upd (upd H4 x (.ins T.C_Values dx [("told", V.ref E)])) x (.ins T.C_Values dx [("told", V.ref E), ("untold", V.non)])) (fun b o h n => hp_mut (hp_mut (S4 _ _ (s0 _ _ h)) n) n) ?_ ⟨⟨dx, .non, upd_same, rfl⟩, ⟨kv, hp_mut (hp_mut hE nxE) nxE, D4.imp fun v q r => r.stay st⟩, gt, trivial⟩
        cases hh : H E with
        | none => rfl
        | some o =>
          have := S3 _ _ (s0 _ _ hh)
          rw [nE] at this
          cases this
theorem ok_Values_rest_get (T : TX K mg) : FnOk P w K mg base CX0 1 T.f_Values_rest_get T.d_Values_rest_get ["self"] (spVRest T.C_Values T.C_Ratio) := by
  refine T.F_Values_rest_get.ok sc_Values_rest_get (fun vs H Q E h => ?_) (fun cdv A out s H vs Q E hr h => ?_)
  · obtain ⟨h, d, ks, Tt, Rs, rfl, ⟨⟨dx, u, eh, hu0⟩, ⟨kvs, ed, D⟩, gt, go⟩, k⟩ := h
    rfl
  · obtain ⟨h, d, ks, Tt, Rs, rfl, ⟨⟨dx, u, eh, hu0⟩, ⟨kvs, ed, D⟩, gt, go⟩, k⟩ := h
    refine ⟨_, (pss_one (ps_ret (pe_fld (pv 0) rfl))), ?_⟩
    exact ⟨_, rfl, h, T.C_Values, dx, _, _, rfl, eh, T.vc, T.nUnt, rfl, k u hu0⟩
theorem r_Values_rest_get (T : TX K mg) : FnR P w K mg base CX0 1 T.f_Values_rest_get (spVRest T.C_Values T.C_Ratio) := rawAll (ok_Values_rest_get T) (bd_Values_rest_get T.F_Values_rest_get)
theorem ok_Values_names (T : TX K mg) : FnOk P w K mg base CX0 1 T.f_Values_names T.d_Values_names ["self"] (spVNames T.C_Values T.C_Ratio) := by
  refine T.F_Values_names.ok sc_Values_names (fun vs H Q E h => ?_) (fun cdv A out s H vs Q E hr h => ?_)
  · obtain ⟨h, d, ks, Tt, Rs, rfl, ⟨⟨dx, u, eh, hu0⟩, ⟨kvs, ed, D⟩, gt, go⟩, k⟩ := h
    rfl
  · obtain ⟨h, d, ks, Tt, Rs, rfl, ⟨⟨dx, u, eh, hu0⟩, ⟨kvs, ed, D⟩, gt, go⟩, k⟩ := h
    refine ⟨_, (pss_one (ps_ret (pe_callTy call_tuple_of (by rfl) T.b_tuple (by decide +kernel) (pa_cons (pe_callB (cr_sortFS (hu2_of hr)) (by rfl) T.b_sorted (by decide +kernel) (pa_cons (pe_lock (pe_lc (own := [("name", 1)]) (g := gName 1) (tt := tYes) (by rfl) sc_Values_names.nd (pi_keys (pe_fld (pv 0) rfl)) (blkOk_by (own := [("name", 1)]) (N := N_Values_names) (sc := defScope s_Values_names) (by decide +kernel)) (fun _ _ _ _ _ => (pg_name (i := 1) sc_Values_names.nd rfl (Or.inl rfl))) (fun _ _ _ _ _ => pts_nil) (fun _ _ _ _ _ => (pe_callTy SkE.call_str_str (by rfl) T.b_str (by decide +kernel) (pa_cons (pv 1) pa_nil))))) pa_nil)) pa_nil)))), ?_⟩
    refine ⟨d, .dK kvs, ed, trivial, fun od => ?_⟩
    have ne : h ≠ d := ne_of eh ed (by intro z; cases z)
    refine ⟨_, rfl, h, T.C_Values, dx, _, _, rfl, (hp_mut eh ne), T.vc, T.nTold, rfl, d, od, rfl, .inl ⟨kvs, upd_same, fun E nE => ?_⟩⟩
    have nEd : E ≠ d := fun z => by subst z; rw [upd_same] at nE; cases nE
    refine lc_it (walk_keys (d := d) (o := od) (kvs := kvs)) (fun i H' => Same (upd H d (.frz od (.dK kvs))) H' ∧ H' E = some (.lst ((ks.take i).map V.str))) ⟨Same.new nE, upd_same⟩ (fun i H' _ z => z.1 _ _ upd_same) ?_ ?_
    · rintro i y H1 H' hi ⟨s1, hE⟩ ⟨rfl, key, v, ek, rfl⟩
      have e2 := congrArg (fun l => l[i]?) D.keys
      simp only [List.getElem?_map, ek] at e2
      obtain ⟨nm, en⟩ : ∃ nm, ks[i]? = some nm := by
        cases en : ks[i]? with
        | none => rw [en] at e2; cases e2
        | some nm => exact ⟨nm, rfl⟩
      rw [en] at e2
      obtain rfl : key = Sum.inr nm := Option.some.inj e2
      have ks1 := List.take_add_one (l := ks) (i := i)
      rw [en] at ks1
      refine ⟨rfl, _, rfl, nm, rfl, _, hE, ?_, same_mut s1 nE, ?_⟩
      · rw [List.length_map, List.length_take]
        have := gt.le D
        exact lt_line (by omega)
      · rw [upd_same, ks1, List.map_append]; rfl
    rintro H1 ⟨s1, hE⟩
    rw [D.len, List.take_length] at hE
    refine ⟨s1 _ _ upd_same, ?_⟩
    have S1 : Same H (upd H1 d (.dK kvs)) := fun b o e => by
      by_cases z : b = d
      · subst z; rw [ed] at e; cases e; exact upd_same
      · exact hp_mut (s1 _ _ (hp_mut e z)) z
    refine ⟨E, ks, rfl, SqL.of (hp_mut hE nEd), fun p np => ?_⟩
    exact ⟨p, _, rfl, .inl ⟨SqL.of upd_same, fun q nq => k q _ ((S1.trans (Same.new np)).trans (Same.new nq)) upd_same⟩⟩
theorem r_Values_names (T : TX K mg) : FnR P w K mg base CX0 1 T.f_Values_names (spVNames T.C_Values T.C_Ratio) := rawAll (ok_Values_names T) (bd_Values_names T.F_Values_names)
theorem ok_Values___len__ (T : TX K mg) : FnOk P w K mg base CX0 1 T.f_Values___len__ T.d_Values___len__ ["self"] (spVLen T.C_Values T.C_Ratio) := by
  refine T.F_Values___len__.ok sc_Values___len__ (fun vs H Q E h => ?_) (fun cdv A out s H vs Q E hr h => ?_)
  · obtain ⟨h, d, ks, Tt, Rs, rfl, ⟨⟨dx, u, eh, hu0⟩, ⟨kvs, ed, D⟩, gt, go⟩, k⟩ := h
    rfl
  · obtain ⟨h, d, ks, Tt, Rs, rfl, ⟨⟨dx, u, eh, hu0⟩, ⟨kvs, ed, D⟩, gt, go⟩, k⟩ := h
    refine ⟨_, (pss_one (ps_ret (pe_callB call_lenD (by rfl) T.b_len PySem.boot_len (pa_cons (pe_fld (pv 0) rfl) pa_nil)))), ?_⟩
    refine ⟨_, rfl, h, T.C_Values, dx, _, _, rfl, eh, T.vc, T.nTold, rfl, d, kvs, rfl, ed, ?_⟩
    rw [D.len]
    exact k
theorem r_Values___len__ (T : TX K mg) : FnR P w K mg base CX0 1 T.f_Values___len__ (spVLen T.C_Values T.C_Ratio) := rawAll (ok_Values___len__ T) (bd_Values___len__ T.F_Values___len__)
theorem ok_Values___contains__ (T : TX K mg) : FnOk P w K mg base CX0 2 T.f_Values___contains__ T.d_Values___contains__ ["self", "name"] (spVHas K T.C_Values T.C_Ratio) := by
  refine T.F_Values___contains__.ok sc_Values___contains__ (fun vs H Q E h => ?_) (fun cdv A out s H vs Q E hr h => ?_)
  · obtain ⟨h, d, ks, Tt, Rs, v, rfl, ⟨⟨dx, u, eh, hu0⟩, ⟨kvs, ed, D⟩, gt, go⟩, hc⟩ := h
    rfl
  · obtain ⟨h, d, ks, Tt, Rs, v, rfl, ⟨⟨dx, u, eh, hu0⟩, ⟨kvs, ed, D⟩, gt, go⟩, hc⟩ := h
    refine ⟨_, (pss_one (ps_ret (pe_and (pe_callR (r_is_name T) (hr.mono (by decide)) (by rfl) T.m_is_name T.F_is_name.kp pass0 (pa_cons (pv 1) pa_nil)) (pe_one (pe_cmp (pc_din (hu_of hr) (pv 1) (pe_fld (pv 0) rfl)) rfl))))), ?_⟩
    rcases hc with ⟨x, ⟨rfl, xl, xn⟩, k⟩ | ⟨hn, k⟩
    · refine ⟨_, rfl, .str x, true, rfl, .inl ⟨rfl, x, rfl, xl, xn⟩, _, rfl, ?_⟩
      refine iteT ?_
      refine ⟨_, rfl, _, rfl, h, T.C_Values, dx, _, _, rfl, eh, T.vc, T.nTold, rfl, d, _, rfl, DGet.k (k := Sum.inr x) ed, ?_⟩
      rw [D.some?]
      exact k
    · refine ⟨_, rfl, v, false, rfl, .inr ⟨rfl, hn⟩, _, rfl, ?_⟩
      refine iteF ?_
      exact k
theorem r_Values___contains__ (T : TX K mg) : FnR P w K mg base CX0 2 T.f_Values___contains__ (spVHas K T.C_Values T.C_Ratio) := rawAll (ok_Values___contains__ T) (bd_Values___contains__ T.F_Values___contains__)
theorem ok_Values___getitem__ (T : TX K mg) : FnOk P w K mg base (L2.CX P w) 2 T.f_Values___getitem__ T.d_Values___getitem__ ["self", "name"] (spVGet K T.C_Values T.C_Ratio T.C_NoValue) := by
  refine T.F_Values___getitem__.okX sc_Values___getitem__ (fun vs H Q E h => ?_) (fun cdv A out s H vs Q E hr h => ?_)
  · obtain ⟨h, d, ks, Tt, Rs, v, rfl, ⟨⟨dx, u, eh, hu0⟩, ⟨kvs, ed, D⟩, gt, go⟩, hc⟩ := h
    rfl
  · obtain ⟨h, d, ks, Tt, Rs, v, rfl, ⟨⟨dx, u, eh, hu0⟩, ⟨kvs, ed, D⟩, gt, go⟩, hc⟩ := h
    refine ⟨_, (pss_cons (ps_set (i := 2) sc_Values___getitem__.nd rfl (Or.inl rfl) (pe_ifExp (pt_val (pe_callR (r_is_name T) (hr.mono (by decide)) (by rfl) T.m_is_name T.F_is_name.kp pass0 (pa_cons (pv 1) pa_nil))) (pe_dget2 (hu_of hr) (pe_fld (pv 0) rfl) (pv 1) (pe_fld (pv 0) rfl) ⟨rfl, rfl, rfl, rfl⟩) pe_non))
 (pss_cons (ps_if (pt_cmpR op_isN (pv 2) pe_non (nomark _)) (pss_one (ps_raiseLowN rfl T.low_NoValue hr (takes_of rfl rfl rfl rfl) (pa_cons (pv 1) pa_nil) (by rfl))) pss_nil)
 (pss_one (ps_ret (pv 2))))), ?_⟩
    rcases hc with ⟨x, ⟨rfl, xl, xn⟩, k⟩ | ⟨hn, k⟩
    · refine ⟨_, rfl, .str x, true, rfl, .inl ⟨rfl, x, rfl, xl, xn⟩, _, rfl, ?_⟩
      refine iteT ?_
      refine ⟨_, rfl, h, T.C_Values, dx, _, _, rfl, eh, T.vc, T.nTold, rfl, d, rfl, .inl ⟨kvs, .inl ed⟩, _, rfl, _, rfl, h, T.C_Values, dx, _, _, rfl, eh, T.vc, T.nUnt, rfl, _, DGet.k (k := Sum.inr x) ed, ?_⟩
      cases ht : Tt x with
      | some q =>
        rw [ht] at k
        obtain ⟨v0, e1, a, rfl, r⟩ := D.val x q ht
        rw [e1]
        refine ⟨_, rfl, rfl, _, rfl, ?_⟩
        rw [decide_eq_false (show ¬ ((some (V.ref a)).getD u) = V.non by intro z; cases z)]
        exact ⟨_, rfl, k a r⟩
      | none =>
        rw [ht] at k
        rw [D.none ht]
        cases Rs with
        | none =>
          obtain rfl : u = .non := hu0
          refine ⟨_, rfl, rfl, _, rfl, ?_⟩
          rw [decide_eq_true (show (Option.getD Option.none V.non) = V.non from rfl)]
          refine iteT ?_
          exact ⟨_, rfl, _, rfl, fun d nd => k d _ (Same.new nd) upd_same⟩
        | some q =>
          obtain ⟨a, rfl, r⟩ := hu0
          refine ⟨_, rfl, rfl, _, rfl, ?_⟩
          rw [decide_eq_false (show ¬ (Option.getD Option.none (V.ref a)) = V.non by intro z; cases z)]
          exact ⟨_, rfl, k a r⟩
    · refine ⟨_, rfl, v, false, rfl, .inr ⟨rfl, hn⟩, _, rfl, ?_⟩
      refine iteF ?_
      refine ⟨_, rfl, rfl, _, rfl, ?_⟩
      rw [decide_eq_true rfl]
      refine iteT ?_
      exact ⟨_, rfl, _, rfl, fun d nd => k d _ (Same.new nd) upd_same⟩
theorem r_Values___getitem__ (T : TX K mg) : FnR P w K mg base (L2.CX P w) 2 T.f_Values___getitem__ (spVGet K T.C_Values T.C_Ratio T.C_NoValue) := rawAll (ok_Values___getitem__ T) (bd_Values___getitem__ T.F_Values___getitem__)
theorem ok_Values___eq__ (T : TX K mg) : FnOk P w K mg base CX0 6 T.f_Values___eq__ T.d_Values___eq__ ["self", "other"] (spVEq K T.C_Values T.C_Ratio) := by
  refine T.F_Values___eq__.ok sc_Values___eq__ (fun vs H Q E h => ?_) (fun cdv A out s H vs Q E hr h => ?_)
  · obtain ⟨h, d, ks, Tt, y, rfl, ⟨⟨dx, u, eh, hu0⟩, ⟨kvs, ed, D⟩, gt, go⟩, hc⟩ := h
    rfl
  · obtain ⟨h, d, ks, Tt, y, rfl, ⟨⟨dx, u, eh, hu0⟩, ⟨kvs, ed, D⟩, gt, go⟩, hc⟩ := h
    refine ⟨_, (pss_one (ps_ret (pe_and (pe_callB call_isi (by rfl) T.b_isinstance (by decide +kernel) (pa_cons (pv 1) (pa_cons (pe_glob (v := .ref T.C_Values) (by rfl) T.m_Values rfl) pa_nil))) (pe_and (pe_cmpR (op_eqDO T.eqm.1 T.eqm.2 T.nf (r_Ratio___eq__ T) (hr.mono (by decide))) (pe_fld (pv 0) rfl) (pe_fld (pv 1) rfl) (nomark _)) (pe_one (pe_cmpR op_eq (pe_fld (pv 0) rfl) (pe_fld (pv 1) rfl) (nomark _))))))), ?_⟩
    rcases hc with ⟨h2, d2, ks2, T2, rfl, nd, ⟨⟨dx2, u2, eh2, hu2⟩, ⟨kvs2, ed2, D2⟩, gt2, go2⟩, k⟩ | ⟨t, ty, kt, k⟩
    · obtain rfl : u = .non := hu0
      obtain rfl : u2 = .non := hu2
      refine ⟨_, rfl, _, _, _, _, true, rfl, .own _, T.rcV.ty eh2, kit_self, _, rfl, ?_⟩
      refine iteT ?_
      refine ⟨_, rfl, h, T.C_Values, dx, _, _, rfl, eh, T.vc, T.nTold, rfl, _, rfl, h2, T.C_Values, dx2, _, _, rfl, eh2, T.vc, T.nTold, rfl, d, d2, kvs, kvs2, ks, ks2, Tt, T2, rfl, rfl, nd.symm, ed, ed2, D, D2, ?_⟩
      refine ⟨_, rfl, ?_⟩
      cases hE : eqTold ks ks2.length Tt T2 with
      | false =>
        rw [hE] at k
        refine iteF ?_
        exact k
      | true =>
        rw [hE] at k
        refine iteT ?_
        refine ⟨_, rfl, h, T.C_Values, dx, _, _, rfl, eh, T.vc, T.nUnt, rfl, _, rfl, h2, T.C_Values, dx2, _, _, rfl, eh2, T.vc, T.nUnt, rfl, ?_⟩
        refine ⟨rfl, ?_⟩
        exact k
    · refine ⟨_, rfl, _, _, _, _, false, rfl, .own _, ty, kt, _, rfl, ?_⟩
      refine iteF ?_
      exact k
theorem r_Values___eq__ (T : TX K mg) : FnR P w K mg base CX0 6 T.f_Values___eq__ (spVEq K T.C_Values T.C_Ratio) := rawAll (ok_Values___eq__ T) (bd_Values___eq__ T.F_Values___eq__)
theorem ok_Values___str__ (T : TX K mg) : FnOk P w K mg base CX0 5 T.f_Values___str__ T.d_Values___str__ ["self"] (spVStr T.C_Values T.C_Ratio) := by
  refine T.F_Values___str__.ok sc_Values___str__ (fun vs H Q E h => ?_) (fun cdv A out s H vs Q E hr h => ?_)
  · obtain ⟨h, d, ks, Tt, rfl, Va, k⟩ := h
    rfl
  · obtain ⟨h, d, ks, Tt, rfl, Va, k⟩ := h
    refine ⟨_, (pss_cons (ps_setLc (i := 1) (own := [("name", 2)]) (g := gName 2) (tt := tYes) (by rfl) sc_Values___str__.nd rfl rfl (sw_true rfl rfl rfl (by decide +kernel)) (pi_tup (pe_prop (pv 0) T.vc T.pr_names (ok_Values_names T) (hr.mono (by decide)) (bd_Values_names T.F_Values_names) .nil pass0 rfl)) (blkOk_by (own := [("name", 2)]) (N := N_Values___str__) (sc := defScope s_Values___str__) (by decide +kernel)) (fun _ _ _ _ _ => (pg_name (i := 2) sc_Values___str__.nd rfl (Or.inl rfl))) (fun _ _ _ _ _ => pts_nil) (fun _ _ _ _ _ => (pe_joinedN (.cons (pe_fmt (pv 2)) (.cons pe_str (.cons (pe_fmtO T.st.1 T.st.2 T.fmt T.rc.cm (r_Ratio___str__ T) (hr.mono (by decide)) pass0 (pe_dget (hu_of hr) (show PE _ _ (tFld K (tVar 0) "told") from (pe_fld (pv 0) rfl)) (pv 2) (fun _ _ => rfl))) .nil))))))
 (pss_cons (ps_if (pt_cmpR op_notN (pe_fld (pv 0) rfl) pe_non (nomark _)) (pss_one ps_never) pss_nil)
 (pss_cons (ps_if (pt_not (pt_truth (pv 1) (fun _ => rfl))) (pss_one (ps_ret pe_str)) pss_nil)
 (pss_one (ps_ret (pe_join pe_str (pv 1))))))), ?_⟩
    obtain ⟨⟨dx, u, eh, hu0⟩, _, gt, go⟩ := id Va
    obtain rfl : u = .non := hu0
    refine ⟨_, rfl, h, dx, _, rfl, eh, h, d, ks, Tt, none, rfl, Va, fun p H1 s1 hp => ?_⟩
    have V1 := Va.same s1
    obtain ⟨kvs, ed, D⟩ := id V1.dct
    obtain ⟨dx1, u1, eh1, hu1⟩ := id V1.ins
    obtain rfl : u1 = .non := hu1
    have l12 : (srtS ks).length ≤ 12 := by rw [srtS_len]; exact gt.le D
    refine ⟨p, rfl, ⟨_, SqT.of hp⟩, fun L nL => ?_⟩
    refine lc_tup (K := K) (xs := (srtS ks).map V.str) (fun i H' => Same H1 H' ∧ ∃ ys : List Str, H' L = some (.lst (ys.map V.str)) ∧ ys.length = i ∧ ∀ y ∈ ys, y.length ≤ 5000) ⟨Same.new nL, [], upd_same, rfl, fun _ z => nomatch z⟩ (fun i H' _ z => SqT.of (z.1 _ _ hp)) ?_ ?_
    · rintro i y H' hy ⟨s2, ys, hL, lys, bys⟩
      obtain ⟨nm, en, rfl, hm⟩ := at_strs hy
      have hi : i < (srtS ks).length := (List.getElem?_eq_some_iff.mp en).1
      have hk := srtS_mem.mp hm
      have hw := gt.kw D hk
      obtain ⟨q, eq⟩ := Option.isSome_iff_exists.mp ((D.dom nm).mp hk)
      obtain ⟨v, ev, a, rfl, ra⟩ := D.val nm q eq
      have gq := gt.gv nm q eq
      have w8 := words_ln nm hw
      have L1 := txt_len (sm_mono gq.2.2.1 (show 200 ≤ 1900 by decide)) (sm_mono gq.2.2.2 (show 200 ≤ 1900 by decide))
      refine ⟨rfl, _, rfl, ?_⟩
      refine .inl ⟨nm, rfl, le_line8 w8, ?_⟩
      refine ⟨_, rfl, by rw [sizeLine_eq, empty_app]; omega, ?_⟩
      rw [empty_app]
      refine ⟨_, rfl, by rw [sizeLine_eq, strLen_append]; show _ + 1 ≤ _; omega, ?_⟩
      have ra2 := ra.same s2
      obtain ⟨dr, er⟩ := id ra2
      refine ⟨_, rfl, h, T.C_Values, dx1, _, _, rfl, s2 _ _ eh1, T.vc, T.nTold, rfl, _, rfl, d, .ref a, rfl, (by rw [← ev]; exact DGet.k (k := Sum.inr nm) (s2 _ _ ed)), ?_⟩
      refine ⟨⟨a, dr, _, rfl, er⟩, a, q.1, q.2, rfl, ra2, sm_mono gq.2.2.1 (by decide), sm_mono gq.2.2.2 (by decide), _, rfl, _, rfl, by rw [sizeLine_eq, strLen_append, strLen_append]; show _ + 1 + _ ≤ _; omega, ?_⟩
      refine ⟨_, hL, by rw [List.length_map]; exact lt_line (by omega), same_mut s2 nL, ys ++ [nm ++ " " ++ txt q.1 q.2], ?_, by rw [List.length_append, lys]; rfl, fun z hz => ?_⟩
      · rw [upd_same, List.map_append]; rfl
      · rcases List.mem_append.mp hz with hz | hz
        · exact bys z hz
        · rw [List.mem_singleton.mp hz, strLen_append, strLen_append]; show _ + 1 + _ ≤ _; omega
    rintro H2 ⟨s2, ys, hL, lys, bys⟩
    rw [List.length_map] at lys
    have S2 := s1.trans s2
    refine ⟨_, rfl, h, T.C_Values, dx1, _, _, rfl, s2 _ _ eh1, T.vc, T.nUnt, rfl, rfl, _, rfl, ?_⟩
    rw [decide_eq_true rfl]
    refine iteF ?_
    refine ⟨_, rfl, _, .inl ⟨_, SqL.of hL, rfl⟩, ?_⟩
    cases hY : ys with
    | nil =>
      refine iteT ?_
      exact k _ _ S2 (by show 4 ≤ sizeLine; decide)
    | cons y0 yr =>
      refine iteF ?_
      rw [hY] at hL lys bys
      refine ⟨⟨_, rfl⟩, _, rfl, _, L, y0 :: yr, rfl, rfl, .inl (SqL.of hL), ?_, ?_⟩
      · have := sum_le (n := 5000) (y0 :: yr) bys
        show _ + _ * 2 ≤ 16777216
        omega
      · refine k _ _ S2 ?_
        have h1 := sum_le (n := 5000) (y0 :: yr) bys
        have h2 := join_len ", " (y0 :: yr)
        rw [show Str.length (", " : Str) = 2 from rfl] at h2
        rw [sizeLine_eq]
        omega
theorem r_Values___str__ (T : TX K mg) : FnR P w K mg base CX0 5 T.f_Values___str__ (spVStr T.C_Values T.C_Ratio) := rawAll (ok_Values___str__ T) (bd_Values___str__ T.F_Values___str__)
end
end RR
set_option maxHeartbeats 4000000
namespace RR
open PySem PySem.Spec PyProof.Rows L2
local macro_rules | `(tactic| walk_at "hp") => `(tactic| first | assumption | exact upd_same | (refine hp_new ?_ (by assumption); walk_at "hp") | (refine hp_mut ?_ (by first | assumption | (apply Ne.symm; assumption)); walk_at "hp") | (refine Same.at (by assumption) ?_; walk_at "hp"))
local macro_rules | `(tactic| walk_at "same") => `(tactic| first | exact fun _ _ z => z | assumption | (refine same_new ?_ (by assumption); walk_at "same") | (refine L2.Same.trans ?_ (by assumption); walk_at "same"))
local macro_rules | `(tactic| walk_at "sq") => `(tactic| exact SqL.of (by walk_at "hp"))
local macro_rules | `(tactic| walk_at "sqT") => `(tactic| exact SqT.of (by walk_at "hp"))

open LamX
section
variable {P : Program} {w : World} {K : PySem.W.Frag} {mg : Str → Option Value} {base : Heap}
theorem g__law_pen (T : TX K mg) : FnG P w K mg base CX0 1 T.f__law_pen (spPen K) := by
  refine okG T.F__law_pen sc__law_pen (bd__law_pen T.F__law_pen) (fun vs H Q E h => ?_) (fun cdv A out s H vs Q E hr fr h => ?_)
  · obtain ⟨a, ns, rfl, hS, hl, k⟩ := h
    rfl
  · obtain ⟨a, ns, rfl, hS, hl, k⟩ := h
    refine ⟨_, (pss_one (ps_ret (pe_lst (pa_cons (pe_callTy call_list_of (by rfl) T.b_list (by decide +kernel) (pa_cons (pe_slice sl_list (pv 0) po_none (po_some pe_int)) pa_nil)) (pa_cons pe_int (pa_cons pe_int pa_nil)))))), ?_⟩
    refine ⟨_, rfl, _, rfl, a, _, rfl, hS, fun q1 n1 => ?_⟩
    refine ⟨_, _, rfl, .inl (SqL.of upd_same), fun q2 n2 => ?_⟩
    refine ⟨by show 3 ≤ sizeLine; decide, fun q3 n3 => ?_⟩
    have s1 : Same H (upd (upd (upd H q1 (.lst (cutV (ns.map V.int) none (some 63)))) q2 (.lst (cutV (ns.map V.int) none (some 63)))) q3 (.lst [.ref q2, .int 0, .int 0])) := same_new (same_new (Same.new n1) n2) n3
    refine k q3 q2 _ s1 ((same_new (Same.new n1) n2).free n3) ((Same.new n1).free n2) ⟨upd_same, ?_, by decide, by decide, hl⟩
    rw [upd_ne (ne_of_none upd_same n3), upd_same, cut63 hl]
theorem g__law_draw (T : TX K mg) : FnG P w K mg base CX0 1 T.f__law_draw (spDraw) := by
  refine okG T.F__law_draw sc__law_draw (bd__law_draw T.F__law_draw) (fun vs H Q E h => ?_) (fun cdv A out s H vs Q E hr fr h => ?_)
  · obtain ⟨p, c, ns, a, g, m, rfl, m0, m1, W, k⟩ := h
    rfl
  · obtain ⟨p, c, ns, a, g, m, rfl, m0, m1, W, k⟩ := h
    refine ⟨_, (pss_cons (ps_if (pt_cmpR op_gt (pe_ix ix_list (pv 0) pe_int (fun _ _ => rfl)) pe_int (nomark _)) (pss_cons (ps_set (i := 2) sc__law_draw.nd rfl (Or.inl rfl) (pe_op op_modL (pe_callTy call_int1 (by rfl) T.b_int (by decide +kernel) (pa_cons (pe_ix ix_list (pv 0) pe_int (fun _ _ => rfl)) pa_nil)) (pv 1)))
 (pss_cons (ps_asg (pe_op op_divL (pe_callTy call_int1 (by rfl) T.b_int (by decide +kernel) (pa_cons (pe_ix ix_list (pv 0) pe_int (fun _ _ => rfl)) pa_nil)) (pv 1)) (pg_sub (pv 0) pe_int set_list))
 (pss_one (ps_ret (pv 2))))) pss_nil)
 (pss_cons (ps_set (i := 3) sc__law_draw.nd rfl (Or.inl rfl) (pe_ix ix_list (pv 0) pe_int (fun _ _ => rfl)))
 (pss_cons (ps_asg (pe_op op_add (pv 3) pe_int) (pg_sub (pv 0) pe_int set_list))
 (pss_cons (ps_set (i := 4) sc__law_draw.nd rfl (Or.inl rfl) (pe_op op_add (pe_op op_mulL pe_int (pv 3)) pe_int))
 (pss_cons (ps_if (pt_cmpR (op_neD hr.units) (pe_ix ix_list (pv 0) pe_int (fun _ _ => rfl)) (pe_lst pa_nil) (nomark _)) (pss_one (ps_set (i := 4) sc__law_draw.nd rfl (Or.inl rfl) (pe_ix ix_list (pe_ix ix_list (pv 0) pe_int (fun _ _ => rfl)) (pe_op op_modL (pe_callTy call_int1 (by rfl) T.b_int (by decide +kernel) (pa_cons (pv 3) pa_nil)) (pe_callB call_len_seq (by rfl) T.b_len PySem.boot_len (pa_cons (pe_ix ix_list (pv 0) pe_int (fun _ _ => rfl)) pa_nil))) (fun _ _ => rfl)))) pss_nil)
 (pss_cons (ps_if (PW.pt (pw_and (pt_cmpR op_lt (pv 3) (pe_callB call_len_seq (by rfl) T.b_len PySem.boot_len (pa_cons (pe_ix ix_list (pv 0) pe_int (fun _ _ => rfl)) pa_nil)) (nomark _)) (pw_and1 (pt_cmpR op_ge (pe_callB call_abs (by rfl) T.b_abs (by decide +kernel) (pa_cons (pv 4) pa_nil)) (pe_op op_powL pe_int pe_int) (nomark _))))) (pss_cons (ps_set (i := 5) sc__law_draw.nd rfl (Or.inl rfl) (pe_op op_add (pe_op op_mulL pe_int (pe_op op_sub (pe_callB call_abs (by rfl) T.b_abs (by decide +kernel) (pa_cons (pv 4) pa_nil)) (pe_op op_powL pe_int pe_int))) (pe_callTy call_int1 (by rfl) T.b_int (by decide +kernel) (pa_cons (pe_cmpR op_lt (pv 4) pe_int (nomark _)) pa_nil))))
 (pss_cons (ps_asg (pe_op op_divL (pe_callTy call_int1 (by rfl) T.b_int (by decide +kernel) (pa_cons (pv 5) pa_nil)) (pv 1)) (pg_sub (pv 0) pe_int set_list))
 (pss_one (ps_ret (pe_op op_modL (pe_callTy call_int1 (by rfl) T.b_int (by decide +kernel) (pa_cons (pv 5) pa_nil)) (pv 1)))))) pss_nil)
 (pss_cons (ps_set (i := 6) sc__law_draw.nd rfl (Or.inl rfl) (pe_op op_modL (pe_callTy call_int1 (by rfl) T.b_int (by decide +kernel) (pa_cons (pe_op op_powL (pe_op op_add (pe_op op_add (pe_op op_modL (pe_callTy call_int1 (by rfl) T.b_int (by decide +kernel) (pa_cons (pv 4) pa_nil)) pe_int) (pe_op op_mulL pe_int (pv 3))) pe_int) pe_int) pa_nil)) pe_int))
 (pss_cons (ps_set (i := 6) sc__law_draw.nd rfl (Or.inl rfl) (pe_op op_modL (pe_callTy call_int1 (by rfl) T.b_int (by decide +kernel) (pa_cons (pe_op op_powL (pe_op op_add (pe_op op_add (pe_op op_mulL (pv 6) (pe_op op_add (pe_op op_mulL pe_int (pv 3)) pe_int)) (pe_op op_mulL (pe_op op_mulL pe_int (pv 3)) (pv 3))) pe_int) pe_int) pa_nil)) pe_int))
 (pss_one (ps_ret (pe_op op_modL (pe_callTy call_int1 (by rfl) T.b_int (by decide +kernel) (pa_cons (pe_op op_divL (pv 6) pe_int) pa_nil)) (pv 1)))))))))))), ?_⟩
    have WP := W.pn
    have WC := W.cs
    have WL := W.la
    have WB := W.lb
    have WN := W.ne
    refine ⟨_, rfl, _, _, _, _, rfl, rfl, (SqL.of (by walk_at "hp")), rfl, _, _, rfl, rfl, _, rfl, ?_⟩
    refine ite2 (fun t1 => ?_) (fun t1 => ?_)
    · skip
      refine ⟨_, rfl, _, _, _, _, rfl, rfl, (SqL.of (by walk_at "hp")), rfl, .inl ⟨_, rfl, ?_⟩⟩
      refine ⟨_, rfl, _, _, rfl, rfl, (by omega), fun r2 h2a h2b => ?_⟩
      refine ⟨_, rfl, _, _, _, _, rfl, rfl, (SqL.of (by walk_at "hp")), rfl, .inl ⟨_, rfl, ?_⟩⟩
      refine ⟨_, rfl, _, _, rfl, rfl, (by omega), fun r3 => ?_⟩
      refine ⟨_, rfl, _, _, _, _, rfl, rfl, (by walk_at "hp"), rfl, _, rfl, ?_⟩
      exact k _ _ _ _ (by walk_at "hp") (fun b o hb hne => by walk_at "hp") (by assumption) (by assumption) (by omega) (by omega)
    · skip
      refine ⟨_, rfl, _, _, _, _, rfl, rfl, (SqL.of (by walk_at "hp")), rfl, _, rfl, _, _, rfl, rfl, _, rfl, _, _, _, _, rfl, rfl, (by walk_at "hp"), rfl, _, rfl, _, _, rfl, rfl, (by omega), _, _, rfl, rfl, _, rfl, _, _, _, _, rfl, rfl, (SqL.of (by walk_at "hp")), rfl, (by show _ ≤ _; decide), fun q4 hq4 => ?_⟩
      refine ⟨.list (ns.map PyData.int), .list [], .lst (SqL.of (by walk_at "hp")) (dp_ints ns), .lst (SqL.of upd_same) .nil, shaped_ints ns, by decide, ?_⟩
      rw [eqv_nil]
      refine ⟨_, rfl, ?_⟩
      refine ite2 (fun t5 => ?_) (fun t5 => ?_)
      · skip
        refine ⟨_, rfl, _, _, _, _, rfl, rfl, (SqL.of (by walk_at "hp")), rfl, _, rfl, .inl ⟨_, rfl, ?_⟩⟩
        refine ⟨_, rfl, _, _, _, _, rfl, rfl, (SqL.of (by walk_at "hp")), rfl, _, _, rfl, .inl (SqL.of (by walk_at "hp")), _, _, rfl, rfl, (len_pos (by assumption)), fun r6 h6a h6b => ?_⟩
        obtain ⟨n, _, hn⟩ := at_map (ns := ns) h6a h6b
        refine ⟨_, _, _, _, rfl, rfl, SqL.of (by walk_at "hp"), hn, ?_⟩
        refine ⟨_, rfl, _, rfl, _, _, _, _, rfl, rfl, (SqL.of (by walk_at "hp")), rfl, _, _, rfl, .inl (SqL.of (by walk_at "hp")), _, _, rfl, rfl, _, rfl, ?_⟩
        refine ite2 (fun u1 => ?_) (fun u1 => ?_)
        · skip
          refine ⟨_, rfl, _, rfl, _, _, rfl, rfl, ⟨by decide, by decide, by omega⟩, fun r7 => ?_⟩
          refine ⟨_, _, rfl, rfl, _, rfl, ?_⟩
          refine ite2 (fun u2 => ?_) (fun u2 => ?_)
          · skip
            refine ⟨_, rfl, _, rfl, _, _, rfl, rfl, ⟨by decide, by decide, by omega⟩, fun r8 => ?_⟩
            refine ⟨_, _, rfl, rfl, _, _, rfl, rfl, (by omega), _, rfl, _, _, rfl, rfl, .inr ⟨_, rfl, ?_⟩⟩
            refine ⟨_, _, rfl, rfl, _, rfl, .inl ⟨_, rfl, ?_⟩⟩
            refine ⟨_, rfl, _, _, rfl, rfl, (by omega), fun r9 => ?_⟩
            refine ⟨_, rfl, _, _, _, _, rfl, rfl, (by walk_at "hp"), rfl, _, rfl, .inl ⟨_, rfl, ?_⟩⟩
            refine ⟨_, rfl, _, _, rfl, rfl, (by omega), fun r10 h10a h10b => ?_⟩
            exact k _ _ _ _ (by walk_at "hp") (fun b o hb hne => by walk_at "hp") (by assumption) (by assumption) (by omega) (by omega)
          · skip
            refine ⟨_, rfl, .inl ⟨_, rfl, ?_⟩⟩
            refine ⟨_, _, rfl, rfl, (by omega), fun r11 h11a h11b => ?_⟩
            refine ⟨_, rfl, _, _, rfl, rfl, (by omega), _, _, rfl, rfl, _, _, rfl, rfl, _, _, rfl, rfl, ⟨by decide, by decide, by omega⟩, fun r12 => ?_⟩
            refine .inl ⟨_, rfl, ?_⟩
            refine ⟨_, _, rfl, rfl, (by omega), fun r13 h13a h13b => ?_⟩
            refine ⟨_, rfl, _, rfl, _, _, rfl, rfl, (by omega), _, _, rfl, rfl, _, _, rfl, rfl, (by omega), _, rfl, _, _, rfl, rfl, (by omega), _, rfl, _, _, rfl, rfl, (by omega), _, _, rfl, rfl, _, _, rfl, rfl, _, _, rfl, rfl, ⟨by decide, by decide, pow3_b (by assumption) (by omega) WL WB (by decide) (by decide) (by decide) (by decide) (by decide) (by decide)⟩, fun r14 => ?_⟩
            refine .inl ⟨_, rfl, ?_⟩
            refine ⟨_, _, rfl, rfl, (by omega), fun r15 h15a h15b => ?_⟩
            refine ⟨_, rfl, _, _, rfl, rfl, (by omega), fun r16 => ?_⟩
            refine .inl ⟨_, rfl, ?_⟩
            refine ⟨_, rfl, _, _, rfl, rfl, (by omega), fun r17 h17a h17b => ?_⟩
            exact k _ _ _ _ (by walk_at "hp") (fun b o hb hne => by walk_at "hp") (by assumption) (by assumption) (by omega) (by omega)
        · skip
          refine ⟨_, rfl, .inl ⟨_, rfl, ?_⟩⟩
          refine ⟨_, _, rfl, rfl, (by omega), fun r18 h18a h18b => ?_⟩
          refine ⟨_, rfl, _, _, rfl, rfl, (by omega), _, _, rfl, rfl, _, _, rfl, rfl, _, _, rfl, rfl, ⟨by decide, by decide, by omega⟩, fun r19 => ?_⟩
          refine .inl ⟨_, rfl, ?_⟩
          refine ⟨_, _, rfl, rfl, (by omega), fun r20 h20a h20b => ?_⟩
          refine ⟨_, rfl, _, rfl, _, _, rfl, rfl, (by omega), _, _, rfl, rfl, _, _, rfl, rfl, (by omega), _, rfl, _, _, rfl, rfl, (by omega), _, rfl, _, _, rfl, rfl, (by omega), _, _, rfl, rfl, _, _, rfl, rfl, _, _, rfl, rfl, ⟨by decide, by decide, pow3_b (by assumption) (by omega) WL WB (by decide) (by decide) (by decide) (by decide) (by decide) (by decide)⟩, fun r21 => ?_⟩
          refine .inl ⟨_, rfl, ?_⟩
          refine ⟨_, _, rfl, rfl, (by omega), fun r22 h22a h22b => ?_⟩
          refine ⟨_, rfl, _, _, rfl, rfl, (by omega), fun r23 => ?_⟩
          refine .inl ⟨_, rfl, ?_⟩
          refine ⟨_, rfl, _, _, rfl, rfl, (by omega), fun r24 h24a h24b => ?_⟩
          exact k _ _ _ _ (by walk_at "hp") (fun b o hb hne => by walk_at "hp") (by assumption) (by assumption) (by omega) (by omega)
      · skip
        refine ⟨_, rfl, _, rfl, _, _, _, _, rfl, rfl, (SqL.of (by walk_at "hp")), rfl, _, _, rfl, .inl (SqL.of (by walk_at "hp")), _, _, rfl, rfl, _, rfl, ?_⟩
        refine ite2 (fun u1 => ?_) (fun u1 => ?_)
        · skip
          refine ⟨_, rfl, _, rfl, _, _, rfl, rfl, ⟨by decide, by decide, by omega⟩, fun r25 => ?_⟩
          refine ⟨_, _, rfl, rfl, _, rfl, ?_⟩
          refine ite2 (fun u2 => ?_) (fun u2 => ?_)
          · skip
            refine ⟨_, rfl, _, rfl, _, _, rfl, rfl, ⟨by decide, by decide, by omega⟩, fun r26 => ?_⟩
            refine ⟨_, _, rfl, rfl, _, _, rfl, rfl, (by omega), _, rfl, _, _, rfl, rfl, .inr ⟨_, rfl, ?_⟩⟩
            refine ⟨_, _, rfl, rfl, _, rfl, .inl ⟨_, rfl, ?_⟩⟩
            refine ⟨_, rfl, _, _, rfl, rfl, (by omega), fun r27 => ?_⟩
            refine ⟨_, rfl, _, _, _, _, rfl, rfl, (by walk_at "hp"), rfl, _, rfl, .inl ⟨_, rfl, ?_⟩⟩
            refine ⟨_, rfl, _, _, rfl, rfl, (by omega), fun r28 h28a h28b => ?_⟩
            exact k _ _ _ _ (by walk_at "hp") (fun b o hb hne => by walk_at "hp") (by assumption) (by assumption) (by omega) (by omega)
          · skip
            refine ⟨_, rfl, .inl ⟨_, rfl, ?_⟩⟩
            refine ⟨_, _, rfl, rfl, (by omega), fun r29 h29a h29b => ?_⟩
            refine ⟨_, rfl, _, _, rfl, rfl, (by omega), _, _, rfl, rfl, _, _, rfl, rfl, _, _, rfl, rfl, ⟨by decide, by decide, by omega⟩, fun r30 => ?_⟩
            refine .inl ⟨_, rfl, ?_⟩
            refine ⟨_, _, rfl, rfl, (by omega), fun r31 h31a h31b => ?_⟩
            refine ⟨_, rfl, _, rfl, _, _, rfl, rfl, (by omega), _, _, rfl, rfl, _, _, rfl, rfl, (by omega), _, rfl, _, _, rfl, rfl, (by omega), _, rfl, _, _, rfl, rfl, (by omega), _, _, rfl, rfl, _, _, rfl, rfl, _, _, rfl, rfl, ⟨by decide, by decide, pow3_b (by assumption) (by omega) WL WB (by decide) (by decide) (by decide) (by decide) (by decide) (by decide)⟩, fun r32 => ?_⟩
            refine .inl ⟨_, rfl, ?_⟩
            refine ⟨_, _, rfl, rfl, (by omega), fun r33 h33a h33b => ?_⟩
            refine ⟨_, rfl, _, _, rfl, rfl, (by omega), fun r34 => ?_⟩
            refine .inl ⟨_, rfl, ?_⟩
            refine ⟨_, rfl, _, _, rfl, rfl, (by omega), fun r35 h35a h35b => ?_⟩
            exact k _ _ _ _ (by walk_at "hp") (fun b o hb hne => by walk_at "hp") (by assumption) (by assumption) (by omega) (by omega)
        · skip
          refine ⟨_, rfl, .inl ⟨_, rfl, ?_⟩⟩
          refine ⟨_, _, rfl, rfl, (by omega), fun r36 h36a h36b => ?_⟩
          refine ⟨_, rfl, _, _, rfl, rfl, (by omega), _, _, rfl, rfl, _, _, rfl, rfl, _, _, rfl, rfl, ⟨by decide, by decide, by omega⟩, fun r37 => ?_⟩
          refine .inl ⟨_, rfl, ?_⟩
          refine ⟨_, _, rfl, rfl, (by omega), fun r38 h38a h38b => ?_⟩
          refine ⟨_, rfl, _, rfl, _, _, rfl, rfl, (by omega), _, _, rfl, rfl, _, _, rfl, rfl, (by omega), _, rfl, _, _, rfl, rfl, (by omega), _, rfl, _, _, rfl, rfl, (by omega), _, _, rfl, rfl, _, _, rfl, rfl, _, _, rfl, rfl, ⟨by decide, by decide, pow3_b (by assumption) (by omega) WL WB (by decide) (by decide) (by decide) (by decide) (by decide) (by decide)⟩, fun r39 => ?_⟩
          refine .inl ⟨_, rfl, ?_⟩
          refine ⟨_, _, rfl, rfl, (by omega), fun r40 h40a h40b => ?_⟩
          refine ⟨_, rfl, _, _, rfl, rfl, (by omega), fun r41 => ?_⟩
          refine .inl ⟨_, rfl, ?_⟩
          refine ⟨_, rfl, _, _, rfl, rfl, (by omega), fun r42 h42a h42b => ?_⟩
          exact k _ _ _ _ (by walk_at "hp") (fun b o hb hne => by walk_at "hp") (by assumption) (by assumption) (by omega) (by omega)
theorem g__law_pick (T : TX K mg) : FnG P w K mg base CX0 2 T.f__law_pick (spPick K) := by
  refine okG T.F__law_pick sc__law_pick (bd__law_pick T.F__law_pick) (fun vs H Q E h => ?_) (fun cdv A out s H vs Q E hr fr h => ?_)
  · obtain ⟨p, q, c, ns, a, g, xs, rfl, W, hq, hqp, x0, x1, k⟩ := h
    rfl
  · obtain ⟨p, q, c, ns, a, g, xs, rfl, W, hq, hqp, x0, x1, k⟩ := h
    refine ⟨_, (pss_one (ps_ret (pe_ix ix_list (pv 1) (pe_callG (g__law_draw T) (hr.mono (by decide)) fr (by rfl) T.m__law_draw T.F__law_draw.kp pass0 (pa_cons (pv 0) (pa_cons (pe_callB call_len_seq (by rfl) T.b_len PySem.boot_len (pa_cons (pv 1) pa_nil)) pa_nil))) (fun _ _ => rfl)))), ?_⟩
    refine ⟨_, rfl, _, rfl, _, rfl, _, _, rfl, .inl (SqL.of hq), ?_⟩
    refine ⟨p, c, ns, a, g, _, rfl, by omega, by omega, W, fun d a' g' H' hp kp d0 d1 h1 h2 => ?_⟩
    obtain ⟨x, hx, ha⟩ := at_some d0 d1
    exact ⟨q, xs, d, x, rfl, rfl, SqL.of (kp _ _ hq hqp), ha, k x a' g' H' hp kp hx h1 h2⟩
theorem g__law_low (T : TX K mg) : FnG P w K mg base CX0 1 T.f__law_low (spLow) := by
  refine okG T.F__law_low sc__law_low (bd__law_low T.F__law_low) (fun vs H Q E h => ?_) (fun cdv A out s H vs Q E hr fr h => ?_)
  · obtain ⟨u, l, rfl, l0, sl, su, k⟩ := h
    rfl
  · obtain ⟨u, l, rfl, l0, sl, su, k⟩ := h
    refine ⟨_, (pss_cons (ps_par (i := 2) (j := 3) (by rfl) sc__law_low.nd rfl rfl (by decide) rfl rfl (pa_cons (pe_callB call_abs (by rfl) T.b_abs (by decide +kernel) (pa_cons (pe_callTy call_int1 (by rfl) T.b_int (by decide +kernel) (pa_cons (pv 0) pa_nil)) pa_nil)) (pa_cons (pe_callTy call_int1 (by rfl) T.b_int (by decide +kernel) (pa_cons (pv 1) pa_nil)) pa_nil)) (by rfl))
 (pss_cons (ps_while PassesOwn.never (pt_cmpR op_ne (pv 3) pe_int (nomark _)) (pss_one (ps_par (i := 2) (j := 3) (by rfl) sc__law_low.nd rfl rfl (by decide) rfl rfl (pa_cons (pv 3) (pa_cons (pe_op op_mod (pe_callTy call_int1 (by rfl) T.b_int (by decide +kernel) (pa_cons (pv 2) pa_nil)) (pv 3)) pa_nil)) (by rfl))))
 (pss_one (ps_ret (pe_tup (pa_cons (pe_op op_fdivW (pe_callTy call_int1 (by rfl) T.b_int (by decide +kernel) (pa_cons (pv 0) pa_nil)) (pv 2)) (pa_cons (pe_op op_fdivW (pe_callTy call_int1 (by rfl) T.b_int (by decide +kernel) (pa_cons (pv 1) pa_nil)) (pv 2)) pa_nil))))))), ?_⟩
    refine ⟨_, rfl, .inl ⟨_, rfl, ?_⟩⟩
    refine ⟨_, rfl, _, rfl, .inl ⟨_, rfl, ?_⟩⟩
    refine ⟨_, _, rfl, ?_⟩
    refine while_by (fun σ H1 => H1 = H ∧ ∃ f s : Int, σ = [some (.int u), some (.int l), some (.int f), some (.int s)] ∧ 0 ≤ f ∧ 0 ≤ s ∧ Nat.gcd f.natAbs s.natAbs = Nat.gcd u.natAbs l.natAbs)
      (fun σ _ => match σ with | [_, _, _, some (.int s)] => s.toNat | _ => 0) ⟨rfl, _, l, rfl, by split <;> omega, by omega, by
        congr 1
        split <;> omega⟩ ?_ (fun σ H1 Q1 Q2 hq z => by
        obtain ⟨v, e1, e2, kk, e3, q⟩ := z
        exact ⟨v, e1, e2, kk, e3, hq _ _ q⟩)
    rintro σ H1 ⟨rfl, f, s, rfl, f0, s0, hg⟩
    refine ⟨_, rfl, rfl, _, rfl, ?_⟩
    rw [dec_int]
    refine ite2 (fun z => ?_) (fun z => ?_)
    · have s1 : s ≠ 0 := by intro y; subst y; exact absurd z (by decide)
      refine ⟨_, rfl, _, rfl, .inl ⟨_, rfl, ?_⟩⟩
      refine ⟨_, rfl, _, _, rfl, rfl, by omega, _, _, rfl, ⟨rfl, s, f % s, rfl, s0, Int.emod_nonneg f s1, ?_⟩, ?_⟩
      · rw [← hg]; exact gcd_step f0 (by omega)
      · show (f % s).toNat < s.toNat
        have := Int.emod_lt_of_pos f (show 0 < s by omega)
        have := Int.emod_nonneg f s1
        omega
    · have s1 : s = 0 := by
        by_cases y : s = 0
        · exact y
        · exact absurd (by simpa using y) z
      subst s1
      have fg : f = gd u l := by
        unfold gd
        rw [← hg, show (0 : Int).natAbs = 0 from rfl, Nat.gcd_zero_right]
        omega
      subst fg
      have g0 := gd_pos (t := u) l0
      have g1 : ∀ i, CDivW i (gd u l) := fun i => wide_div g0 (Nat.lt_of_le_of_lt (by have := gd_le (t := u) l0; omega) sl) (by decide) (by decide)
      refine ⟨_, rfl, .inl ⟨_, rfl, ?_⟩⟩
      refine ⟨_, rfl, _, _, rfl, rfl, g1 _, _, rfl, .inl ⟨_, rfl, ?_⟩⟩
      refine ⟨_, rfl, _, _, rfl, rfl, g1 _, by show 2 ≤ sizeLine; decide, fun q1 n1 => ?_⟩
      exact k q1 _ (Same.new n1) n1 upd_same
theorem g__law_is (T : TX K mg) : FnG P w K mg base CX0 1 T.f__law_is (spIs T.C_Ratio) := by
  refine okG T.F__law_is sc__law_is (bd__law_is T.F__law_is) (fun vs H Q E h => ?_) (fun cdv A out s H vs Q E hr fr h => ?_)
  · obtain ⟨x, y, rfl, ⟨a, p, t, b, rfl, rfl, ⟨dx, e⟩, hp, st, sb⟩, k⟩ := h
    rfl
  · obtain ⟨x, y, rfl, ⟨a, p, t, b, rfl, rfl, ⟨dx, e⟩, hp, st, sb⟩, k⟩ := h
    refine ⟨_, (pss_one (ps_ret (pe_and (pe_callB call_isi (by rfl) T.b_isinstance (by decide +kernel) (pa_cons (pv 0) (pa_cons (pe_glob (v := .ref T.C_Ratio) (by rfl) T.m_Ratio rfl) pa_nil))) (pe_one (pe_cmpR op_eq (pe_callB (call_reprII hr.units fr) (by rfl) T.b_repr (by decide +kernel) (pa_cons (pe_tup (pa_cons (pe_fld (pv 0) rfl) (pa_cons (pe_fld (pv 0) rfl) pa_nil))) pa_nil)) (pe_callB (call_reprII hr.units fr) (by rfl) T.b_repr (by decide +kernel) (pa_cons (pv 1) pa_nil)) (nomark _)))))), ?_⟩
    refine ⟨_, rfl, _, _, _, _, true, rfl, .own _, T.rc.ty e, kit_self, _, rfl, ?_⟩
    refine iteT ?_
    refine ⟨_, rfl, _, _, _, _, _, rfl, e, T.rc.cls, T.rc.nT, rfs_top _ _, _, rfl, _, _, _, _, _, rfl, e, T.rc.cls, T.rc.nB, rfs_bottom _ _, by show 2 ≤ sizeLine; decide, fun q1 n1 => ?_⟩
    refine ⟨q1, t, b, rfl, SqT.of upd_same, st, sb, ?_⟩
    refine ⟨_, rfl, p, t, b, rfl, SqT.of (hp_new hp n1), st, sb, rfl, ?_⟩
    rw [decide_eq_true rfl]
    exact k _ (Same.new n1)
theorem g__law_fraction (T : TX K mg) : FnG P w K mg base CX0 3 T.f__law_fraction (spFrac) := by
  refine okG T.F__law_fraction sc__law_fraction (bd__law_fraction T.F__law_fraction) (fun vs H Q E h => ?_) (fun cdv A out s H vs Q E hr fr h => ?_)
  · obtain ⟨p, c, ns, a, g, rfl, W, ha, k⟩ := h
    rfl
  · obtain ⟨p, c, ns, a, g, rfl, W, ha, k⟩ := h
    refine ⟨_, (pss_cons (ps_set (i := 1) sc__law_fraction.nd rfl (Or.inl rfl) (pe_lst (pa_cons pe_int (pa_cons pe_int (pa_cons pe_int (pa_cons pe_int (pa_cons pe_int (pa_cons pe_int (pa_cons pe_int (pa_cons pe_int (pa_cons pe_int (pa_cons (pe_op op_add (pe_op op_pow pe_int pe_int) pe_int) (pa_cons (pe_op op_pow pe_int pe_int) (pa_cons (pe_callG (g__law_draw T) (hr.mono (by decide)) fr (by rfl) T.m__law_draw T.F__law_draw.kp pass0 (pa_cons (pv 0) (pa_cons pe_int pa_nil))) pa_nil))))))))))))))
 (pss_cons (ps_set (i := 2) sc__law_fraction.nd rfl (Or.inl rfl) (pe_lst (pa_cons pe_int (pa_cons pe_int (pa_cons pe_int (pa_cons pe_int (pa_cons pe_int (pa_cons pe_int (pa_cons pe_int (pa_cons pe_int (pa_cons pe_int (pa_cons (pe_op op_add (pe_op op_pow pe_int pe_int) pe_int) (pa_cons (pe_op op_pow pe_int pe_int) (pa_cons (pe_op op_add pe_int (pe_callG (g__law_draw T) (hr.mono (by decide)) fr (by rfl) T.m__law_draw T.F__law_draw.kp pass0 (pa_cons (pv 0) (pa_cons pe_int pa_nil)))) pa_nil))))))))))))))
 (pss_cons (ps_set (i := 3) sc__law_fraction.nd rfl (Or.inl rfl) (pe_op op_sub pe_int (pe_op op_mulL pe_int (pe_callTy call_int1 (by rfl) T.b_int (by decide +kernel) (pa_cons (pe_cmpR op_eq (pe_callG (g__law_draw T) (hr.mono (by decide)) fr (by rfl) T.m__law_draw T.F__law_draw.kp pass0 (pa_cons (pv 0) (pa_cons pe_int pa_nil))) pe_int (nomark _)) pa_nil)))))
 (pss_one (ps_ret (pe_callG (g__law_low T) (hr.mono (by decide)) fr (by rfl) T.m__law_low T.F__law_low.kp pass0 (pa_cons (pe_op op_mulL (pv 3) (pe_callG (g__law_pick T) (hr.mono (by decide)) fr (by rfl) T.m__law_pick T.F__law_pick.kp pass0 (pa_cons (pv 0) (pa_cons (pv 1) pa_nil)))) (pa_cons (pe_callG (g__law_pick T) (hr.mono (by decide)) fr (by rfl) T.m__law_pick T.F__law_pick.kp pass0 (pa_cons (pv 0) (pa_cons (pv 2) pa_nil))) pa_nil)))))))), ?_⟩
    refine ⟨_, _, rfl, rfl, ⟨by decide, by decide, by decide⟩, _, _, rfl, rfl, _, _, rfl, rfl, ⟨by decide, by decide, by decide⟩, _, rfl, p, c, ns, a, g, 100, rfl, by decide, by decide, W, fun d1 a1 g1 H1 hp1 k1 z1 y1 l1 u1 => ?_⟩
    refine ⟨by show 12 ≤ sizeLine; decide, fun q1 n1 => ?_⟩
    have W1 := (W.next l1 (by omega) hp1 k1).keep (Same.new n1 (o := .lst [.int 0, .int 1, .int 1, .int 2, .int 3, .int 5, .int 7, .int 12, .int 30, .int (10 ^ (9 : Int).toNat + 7), .int (10 ^ (29 : Int).toNat), .int d1]))
    have e1 : q1 ≠ p := (ne_of_none hp1 n1).symm
    refine ⟨_, _, rfl, rfl, ⟨by decide, by decide, by decide⟩, _, _, rfl, rfl, _, _, rfl, rfl, ⟨by decide, by decide, by decide⟩, _, rfl, p, c, ns, a1, g1, 100, rfl, by decide, by decide, W1, fun d2 a2 g2 H2 hp2 k2 z2 y2 l2 u2 => ?_⟩
    refine ⟨_, _, rfl, rfl, by show 12 ≤ sizeLine; decide, fun q2 n2 => ?_⟩
    have W2 := (W1.next l2 (by omega) hp2 k2).keep (Same.new n2 (o := .lst [.int 1, .int 1, .int 1, .int 2, .int 2, .int 3, .int 4, .int 6, .int 12, .int (10 ^ (9 : Int).toNat + 7), .int (10 ^ (29 : Int).toNat), .int (1 + d2)]))
    have e2 : q2 ≠ p := (ne_of_none hp2 n2).symm
    refine ⟨_, rfl, p, c, ns, a2, g2, 3, rfl, by decide, by decide, W2, fun d3 a3 g3 H3 hp3 k3 z3 y3 l3 u3 => ?_⟩
    refine ⟨rfl, .inr ⟨_, rfl, ?_⟩⟩
    refine ⟨_, _, rfl, rfl, ⟨by decide, by decide⟩, _, _, rfl, rfl, ?_⟩
    have sg := sign_cases (decide (V.int d3 = V.int 0))
    have W3 := W2.next l3 (by omega) hp3 k3
    have f1 := k3 _ _ (hp_new (k2 _ _ (upd_same (H := H1) (a := q1) (o := .lst [.int 0, .int 1, .int 1, .int 2, .int 3, .int 5, .int 7, .int 12, .int 30, .int (10 ^ (9 : Int).toNat + 7), .int (10 ^ (29 : Int).toNat), .int d1])) e1) n2) e1
    have f2 := k3 _ _ (upd_same (H := H2) (a := q2)) e2
    refine ⟨_, rfl, _, rfl, _, rfl, p, q1, c, ns, a3, g3, _, rfl, W3, f1, e1, (by show 0 < 12; decide), (by show 12 < 1000; decide), fun x a4 g4 H4 hp4 k4 hx l4 u4 => ?_⟩
    have A1 : AllI (Sm 97) [V.int 0, .int 1, .int 1, .int 2, .int 3, .int 5, .int 7, .int 12, .int 30, .int (10 ^ (9 : Int).toNat + 7), .int (10 ^ (29 : Int).toNat), .int d1] :=
      allI_cons (by decide) (allI_cons (by decide) (allI_cons (by decide) (allI_cons (by decide) (allI_cons (by decide) (allI_cons (by decide) (allI_cons (by decide) (allI_cons (by decide) (allI_cons (by decide) (allI_cons (by decide) (allI_cons (by decide) (allI_cons (sm_low z1 y1 (by decide)) allI_nil)))))))))))
    obtain ⟨n, rfl, sn⟩ := A1 x hx
    have W4 := W3.next l4 (by omega) hp4 k4
    refine ⟨_, _, rfl, rfl, by omega, _, rfl, _, rfl, p, q2, c, ns, a4, g4, _, rfl, W4, k4 _ _ f2 e2, e2, (by show 0 < 12; decide), (by show 12 < 1000; decide), fun y a5 g5 H5 hp5 k5 hy l5 u5 => ?_⟩
    have A2 : AllI (fun n => 0 < n ∧ Sm 97 n) [V.int 1, .int 1, .int 1, .int 2, .int 2, .int 3, .int 4, .int 6, .int 12, .int (10 ^ (9 : Int).toNat + 7), .int (10 ^ (29 : Int).toNat), .int (1 + d2)] :=
      allI_cons (by decide) (allI_cons (by decide) (allI_cons (by decide) (allI_cons (by decide) (allI_cons (by decide) (allI_cons (by decide) (allI_cons (by decide) (allI_cons (by decide) (allI_cons (by decide) (allI_cons (by decide) (allI_cons (by decide) (allI_cons ⟨by omega, sm_low (m := 101) (by omega) (by omega) (by decide)⟩ allI_nil)))))))))))
    obtain ⟨m, rfl, m0, sm⟩ := A2 y hy
    have st := sm_sign sg sn
    refine ⟨_, m, rfl, m0, sm_mono sm (by decide), sm_mono st (by decide), fun pp H6 s6 n6 e6 => ?_⟩
    have kk : Keep p H H5 := (((((k1.new n1).trans k2).new n2).trans k3).trans k4).trans k5
    refine k pp _ _ a5 g5 H6 (s6 _ _ hp5) (kk.trans (Keep.of s6)) ?_ e6 (low_of m0) (lo_small (sm_mono st (by decide)) m0) (lb_small (sm_mono sm (by decide)) m0) (by omega) (by omega)
    cases hq : H pp with
    | none => rfl
    | some o =>
      by_cases z : pp = p
      · subst z
        rw [hp5] at n6
        cases n6
      · rw [kk _ _ hq z] at n6
        cases n6
theorem g__law_number (T : TX K mg)  : FnG P w K mg base CX0 5 T.f__law_number (spNumberL T.C_Ratio) := by
  refine okG T.F__law_number sc__law_number (bd__law_number T.F__law_number) (fun vs H Q E h => ?_) (fun cdv A out s H vs Q E hr fr h => ?_)
  · obtain ⟨p, c, ns, a, g, rfl, W, ha, k⟩ := h
    rfl
  · obtain ⟨p, c, ns, a, g, rfl, W, ha, k⟩ := h
    refine ⟨_, (pss_cons (ps_set (i := 1) sc__law_number.nd rfl (Or.inl rfl) (pe_callG (g__law_fraction T) (hr.mono (by decide)) fr (by rfl) T.m__law_fraction T.F__law_fraction.kp pass0 (pa_cons (pv 0) pa_nil)))
 (pss_cons (ps_set (i := 1) sc__law_number.nd rfl (Or.inl rfl) (pe_tup (pa_cons (pe_callB call_abs (by rfl) T.b_abs (by decide +kernel) (pa_cons (pe_callTy call_int1 (by rfl) T.b_int (by decide +kernel) (pa_cons (pe_ix ix_tup (pv 1) pe_int (fun _ _ => rfl)) pa_nil)) pa_nil)) (pa_cons (pe_ix ix_tup (pv 1) pe_int (fun _ _ => rfl)) pa_nil))))
 (C8.pss_cut (ps_if (pt_cmpR op_eq (pe_callG (g__law_draw T) (hr.mono (by decide)) fr (by rfl) T.m__law_draw T.F__law_draw.kp pass0 (pa_cons (pv 0) (pa_cons pe_int pa_nil))) pe_int (nomark _)) (pss_one (ps_set (i := 1) sc__law_number.nd rfl (Or.inl rfl) (pe_tup (pa_cons (pe_ix ix_tup (pv 1) pe_int (fun _ _ => rfl)) (pa_cons pe_int pa_nil))))) pss_nil)
 (pss_one (ps_ret (pe_tup (pa_cons (pv 1) (pa_cons (pe_ifExp (PW.pt (pw_and (pt_cmpR op_eq (pe_ix ix_tup (pv 1) pe_int (fun _ _ => rfl)) pe_int (nomark _)) (pw_and1 (pt_cmpR op_eq (pe_callG (g__law_draw T) (hr.mono (by decide)) fr (by rfl) T.m__law_draw T.F__law_draw.kp pass0 (pa_cons (pv 0) (pa_cons pe_int pa_nil))) pe_int (nomark _))))) (pe_ix ix_tup (pv 1) pe_int (fun _ _ => rfl)) (pe_make (T.mk_Ratio) (ok_Ratio___init__ T) (hr.mono (by decide)) (by rfl) T.m_Ratio T.bd2.choose_spec.2 T.bd2.choose_spec.1 passX0 (pa_cons (pe_ix ix_tup (pv 1) pe_int (fun _ _ => rfl)) (pa_cons (pe_ix ix_tup (pv 1) pe_int (fun _ _ => rfl)) pa_nil)))) pa_nil)))))))), ?_⟩
    refine ⟨_, rfl, p, c, ns, a, g, rfl, W, by omega, fun q0 t b a1 g1 H1 hp1 k1 n1 e1 l1 st sb la lb => ?_⟩
    have W1 := W.next la (by omega) hp1 k1
    refine ⟨_, rfl, _, _, _, _, rfl, rfl, SqT.of e1, rfl, .inl ⟨_, rfl, ?_⟩⟩
    refine ⟨_, rfl, _, rfl, _, _, _, _, rfl, rfl, SqT.of e1, rfl, by show 2 ≤ sizeLine; decide, fun r1 m1 => ?_⟩
    have gv := gv1_abs l1 st sb
    have hr1 : Pr (upd H1 r1 (.tup [.int (if t < 0 then -t else t), .int b])) r1 (if t < 0 then -t else t) b := upd_same
    have W2 := W1.keep (Same.new m1 (o := .tup [.int (if t < 0 then -t else t), .int b]))
    have k2 := k1.new m1 (o := .tup [.int (if t < 0 then -t else t), .int b])
    generalize upd H1 r1 (.tup [.int (if t < 0 then -t else t), .int b]) = H2 at hr1 W2 k2 ⊢
    generalize (if t < 0 then -t else t) = t1 at gv hr1
    refine ⟨fun σ' H' => ∃ r q a' g', σ' = [some (V.ref p), some (V.ref r)] ∧ PenAt H' p c ns a' g' ∧ Keep p H H' ∧ Pr H' r q.1 q.2 ∧ GV1 q ∧ a ≤ a' ∧ a' ≤ a + 6, ?_, ?_⟩
    · refine ⟨_, rfl, p, c, ns, a1, g1, 3, rfl, by decide, by decide, W2, fun d3 a3 g3 H3 hp3 k3 z3 y3 l3 u3 => ?_⟩
      have hr3 : Pr H3 r1 t1 b := k3 _ _ hr1 (ne_of hr1 W2.pn (by intro z; cases z))
      have W3 := W2.next l3 (by omega) hp3 k3
      refine ⟨rfl, _, rfl, ?_⟩
      rw [dec_int]
      refine ite2 (fun z => ?_) (fun z => ?_)
      · refine ⟨_, rfl, _, _, _, _, rfl, rfl, SqT.of hr3, rfl, by show 2 ≤ sizeLine; decide, fun r4 m4 => ?_⟩
        exact ⟨r4, (t1, 1), a3, g3, rfl, W3.keep (Same.new m4), (k2.trans k3).new m4, upd_same, gv1_one gv, by omega, by omega⟩
      · exact ⟨r1, (t1, b), a3, g3, rfl, W3, k2.trans k3, hr3, gv, by omega, by omega⟩
    rintro σ' H' ⟨r, q, a5, g5, rfl, W5, k5, hr5, ⟨gq, gs⟩, la5, lb5⟩
    have FIN : ∀ (w : V) (G : Hp) (a6 g6 : Int), H' = H' → Keep p H' G → G p = some (pen c a6 g6) → GoodNum T.C_Ratio G w q → w ≠ .ref p → a5 ≤ a6 → a6 ≤ a5 + 1 → ∀ q3, G q3 = none → Q (.ref q3) (upd G q3 (.tup [.ref r, w])) := fun w G a6 g6 _ kG hpG hw wn l6 u6 q3 n3 => by
      have hrG : Pr G r q.1 q.2 := kG _ _ hr5 (ne_of hr5 W5.pn (by intro z; cases z))
      exact k q3 r w q a6 g6 _ (hp_new hpG n3) ((k5.trans kG).new n3) upd_same (hp_new hrG n3) (hw.keepV (.same (Same.new n3))) gs wn (by omega) (by omega)
    refine ⟨_, rfl, _, rfl, _, _, _, _, rfl, rfl, SqT.of hr5, rfl, rfl, _, rfl, ?_⟩
    rw [dec_int]
    have MADE : ∀ (G : Hp) (a6 g6 : Int), Keep p H' G → G p = some (pen c a6 g6) → a5 ≤ a6 → a6 ≤ a5 + 1 → ∀ y G2, Same G G2 → RatAt T.C_Ratio G2 y q.1 q.2 → 2 ≤ sizeLine ∧ ∀ q3, G2 q3 = none → Q (.ref q3) (upd G2 q3 (.tup [.ref r, .ref y])) := fun G a6 g6 kG hpG l6 u6 y G2 s2 r2 => by
      refine ⟨by show 2 ≤ sizeLine; decide, fun q3 n3 => FIN (.ref y) G2 a6 g6 rfl (kG.trans (Keep.of s2)) (s2 _ _ hpG) ⟨.inl ⟨y, rfl, r2⟩, gq⟩ ?_ l6 u6 q3 n3⟩
      intro z
      cases z
      obtain ⟨dx, e⟩ := r2
      rw [s2 _ _ hpG] at e
      cases e
    by_cases b1 : q.2 = 1
    · rw [decide_eq_true b1]
      refine iteT ?_
      refine ⟨_, rfl, p, c, ns, a5, g5, 2, rfl, by decide, by decide, W5, fun d6 a6 g6 H6 hp6 k6 z6 y6 l6 u6 => ?_⟩
      have hr6 : Pr H6 r q.1 q.2 := k6 _ _ hr5 (ne_of hr5 W5.pn (by intro z; cases z))
      refine ⟨rfl, _, rfl, ?_⟩
      rw [dec_int]
      refine ite2 (fun z => ?_) (fun z => ?_)
      · refine ⟨_, rfl, _, _, _, _, rfl, rfl, SqT.of hr6, rfl, by show 2 ≤ sizeLine; decide, fun q3 n3 => ?_⟩
        exact FIN (.int q.1) H6 a6 g6 rfl k6 hp6 ⟨.inr ⟨rfl, b1⟩, gq⟩ (fun z => nomatch z) l6 u6 q3 n3
      · refine ⟨_, rfl, _, _, _, _, rfl, rfl, SqT.of hr6, rfl, _, rfl, _, _, _, _, rfl, rfl, SqT.of hr6, rfl, fun y dx ny ndx ne => ⟨y, dx, .int q.1, .int q.2, rfl, upd_same, .inl ⟨q.1, q.2, rfl, rfl, gq.low, sm_mono gq.2.2.1 (by decide), sm_mono gq.2.2.2 (by decide), rfl, ?_⟩⟩⟩
        obtain ⟨G2, hF, s2, r2⟩ := newR_heap (C := T.C_Ratio) (t := q.1) (b := q.2) ny ndx
        rw [← hF]
        rw [low_lo gq.2.1, low_lb gq.2.1] at r2
        exact MADE H6 a6 g6 k6 hp6 l6 u6 y G2 s2 r2
    · rw [decide_eq_false b1]
      refine iteF ?_
      refine iteF ?_
      refine ⟨_, rfl, _, _, _, _, rfl, rfl, SqT.of hr5, rfl, _, rfl, _, _, _, _, rfl, rfl, SqT.of hr5, rfl, fun y dx ny ndx ne => ⟨y, dx, .int q.1, .int q.2, rfl, upd_same, .inl ⟨q.1, q.2, rfl, rfl, gq.low, sm_mono gq.2.2.1 (by decide), sm_mono gq.2.2.2 (by decide), rfl, ?_⟩⟩⟩
      obtain ⟨G2, hF, s2, r2⟩ := newR_heap (C := T.C_Ratio) (t := q.1) (b := q.2) ny ndx
      rw [← hF]
      rw [low_lo gq.2.1, low_lb gq.2.1] at r2
      exact MADE H' a5 g5 (Keep.refl _ _) W5.pn (Int.le_refl _) (by omega) y G2 s2 r2
theorem g__law_odd_number (T : TX K mg)  : FnG P w K mg base CX0 6 T.f__law_odd_number (spOddNumI K T.C_Ratio) := by
  refine okG T.F__law_odd_number sc__law_odd_number (bd__law_odd_number T.F__law_odd_number) (fun vs H Q E h => ?_) (fun cdv A out s H vs Q E hr fr h => ?_)
  · obtain ⟨p, c, ns, a, g, rfl, W, ha, k⟩ := h
    rfl
  · obtain ⟨p, c, ns, a, g, rfl, W, ha, k⟩ := h
    refine ⟨_, (pss_cons (ps_set (i := 1) sc__law_odd_number.nd rfl (Or.inl rfl) (pe_lst (pa_cons (pe_un un_neg pe_int) (pa_cons pe_non (pa_cons pe_bl (pa_cons pe_bl (pa_cons pe_str (pa_cons pe_str (pa_cons (pe_lst (pa_cons pe_int pa_nil)) (pa_cons (pe_tup (pa_cons pe_int (pa_cons pe_int pa_nil))) (pa_cons pe_dnewK (pa_cons (pe_make (T.mk_Ratio) (ok_Ratio___init__ T) (hr.mono (by decide)) (by rfl) T.m_Ratio T.bd2.choose_spec.2 T.bd2.choose_spec.1 passX0 (pa_cons (pe_un un_neg pe_int) (pa_cons pe_int pa_nil))) (pa_cons (pe_smeth0 (pe_glob (v := .ref T.C_Ratio) (by rfl) T.m_Ratio rfl) T.st_endless (r_Ratio_endless T) (hr.mono (by decide)) pass0) (pa_cons (pe_un un_neg (pe_op op_pow pe_int pe_int)) pa_nil))))))))))))))
 (pss_one (ps_ret (pe_callG (g__law_pick T) (hr.mono (by decide)) fr (by rfl) T.m__law_pick T.F__law_pick.kp pass0 (pa_cons (pv 0) (pa_cons (pv 1) pa_nil)))))), ?_⟩
    refine ⟨_, rfl, by show 1 ≤ sizeLine; decide, fun q1 n1 => ?_⟩
    refine ⟨by show 2 ≤ sizeLine; decide, fun q2 n2 => ?_⟩
    refine fun q3 n3 => ?_
    refine ⟨_, rfl, fun a4 dx8 nx8 nd8 ne8 => ⟨a4, dx8, .int (-1), .int 2, rfl, upd_same, .inl ⟨-1, 2, rfl, rfl, by decide, sm_mono (show Sm 1 (-1) by decide) (by decide), sm_mono (show Sm 2 2 by decide) (by decide), rfl, ?_⟩⟩⟩
    obtain ⟨H4, hF, s4, r4⟩ := newR_heap (C := T.C_Ratio) (t := -1) (b := 2) nx8 nd8
    rw [← hF]
    have lw : Low (-1) 2 := ⟨by decide, by decide⟩
    rw [low_lo lw, low_lb lw] at r4
    refine ⟨rfl, rfl, fun a5 H5 s5 r5 => ?_⟩
    refine ⟨_, _, rfl, rfl, ⟨by decide, by decide, by decide⟩, _, rfl, by show 12 ≤ sizeLine; decide, fun q7 n7 => ?_⟩
    have Z1 := Same.new n1 (o := .lst [.int 1])
    have Z2 := Same.new n2 (o := .tup [.int 1, .int 2])
    have Z3 := Same.new n3 (o := .dK [])
    have b1 := Z1.trans Z2
    have b2 := b1.trans Z3
    have b3 := b2.trans s4
    have Z := b3.trans s5
    have nn : ∀ {q : Addr} {G : Hp}, Same H G → G q = none → (V.ref q) ≠ .ref p := fun s n z => by
      cases z
      rw [s _ _ W.pn] at n
      cases n
    have nr : ∀ {q : Addr} {G : Hp} {t b : Int}, Same H G → RatAt T.C_Ratio G q t b → (V.ref q) ≠ .ref p := fun s r z => by
      cases z
      obtain ⟨dx, e⟩ := r
      rw [s _ _ W.pn] at e
      cases e
    have f1 := s5 _ _ (s4 _ _ (Z3 _ _ (Z2 _ _ (upd_same (H := H) (a := q1) (o := .lst [.int 1])))))
    have f2 := s5 _ _ (s4 _ _ (Z3 _ _ (upd_same (H := upd H q1 (.lst [.int 1])) (a := q2) (o := .tup [.int 1, .int 2]))))
    have f3 := s5 _ _ (s4 _ _ (upd_same (H := upd (upd H q1 (.lst [.int 1])) q2 (.tup [.int 1, .int 2])) (a := q3) (o := .dK [])))
    have f4 := r4.same s5
    have m1 : BadNum K T.C_Ratio H5 (.int (-1)) := .inl ⟨-1, 1, .inr ⟨rfl, rfl⟩, by decide, by decide, .inr ⟨by decide, by decide⟩⟩
    have m2 : BadNum K T.C_Ratio H5 (.int (-10 ^ (29 : Int).toNat)) := .inl ⟨_, 1, .inr ⟨rfl, rfl⟩, by decide, by decide, .inr ⟨by decide, by decide⟩⟩
    have AV : AllV (fun v => BadNum K T.C_Ratio H5 v ∧ HasI T.C_Ratio H5 v ∧ Aside T.C_Ratio H v) [.int (-1), .non, .bl true, .bl false, .str "1", .str "", .ref q1, .ref q2, .ref q3, .ref a4, .ref a5, .int (-10 ^ (29 : Int).toNat)] := (.cons ⟨m1, hasI_int (by decide), aside_flat (fun _ z => nomatch z)⟩ (.cons ⟨.inr ⟨(odd_non T.oth).1, noR_non T.oth⟩, hasI_non, aside_flat (fun _ z => nomatch z)⟩ (.cons ⟨.inr ⟨(odd_bl T.oth _).1, noR_bl T.oth _⟩, hasI_bl _, aside_flat (fun _ z => nomatch z)⟩ (.cons ⟨.inr ⟨(odd_bl T.oth _).1, noR_bl T.oth _⟩, hasI_bl _, aside_flat (fun _ z => nomatch z)⟩ (.cons ⟨.inr ⟨(odd_str T.oth _).1, noR_str T.oth _⟩, hasI_str (by decide +kernel), aside_flat (fun _ z => nomatch z)⟩ (.cons ⟨.inr ⟨(odd_str T.oth _).1, noR_str T.oth _⟩, hasI_str (by decide +kernel), aside_flat (fun _ z => nomatch z)⟩ (.cons ⟨.inr ⟨(odd_lst T.oth f1).1, noR_lst T.oth f1⟩, hasI_lst f1, aside_new (Same.refl H) n1⟩ (.cons ⟨.inr ⟨(odd_tup T.oth f2).1, noR_tup T.oth f2⟩, hasI_tup f2, aside_new Z1 n2⟩ (.cons ⟨.inr ⟨(odd_dK T.oth f3).1, noR_dK T.oth f3⟩, hasI_dK f3, aside_new b1 n3⟩ (.cons ⟨.inl ⟨_, _, .inl ⟨a4, rfl, f4⟩, by decide, by decide, .inr ⟨by decide, by decide⟩⟩, hasI_rat f4 (by decide) (by decide), aside_rat Z f4⟩ (.cons ⟨.inl ⟨_, _, .inl ⟨a5, rfl, r5⟩, by decide, by decide, .inl rfl⟩, hasI_rat r5 (by decide) (by decide), aside_rat Z r5⟩ (.cons ⟨m2, hasI_int (by decide), aside_flat (fun _ z => nomatch z)⟩ .nil))))))))))))
    generalize hxs : ([.int (-1), .non, .bl true, .bl false, .str "1", .str "", .ref q1, .ref q2, .ref q3, .ref a4, .ref a5, .int (-10 ^ (29 : Int).toNat)] : List V) = xs at AV
    generalize H5 = G at AV Z n7 ⊢
    have Z7 := Same.new n7 (o := .lst xs)
    have hx1 : xs.length = 12 := by rw [← hxs]; rfl
    refine ⟨_, rfl, _, rfl, p, q7, c, ns, a, g, xs, rfl, W.keep (Z.trans Z7), upd_same, fun z => nn Z n7 (by rw [z]), by rw [hx1]; decide, by rw [hx1]; decide, fun x a' g' H' hp' kp hx la lb => ?_⟩
    obtain ⟨O, hi, as⟩ := AV.mem x hx
    have np : x ≠ .ref p := as p _ W.pn (fun _ _ _ z => by cases z)
    exact k x a' g' H' hp' ((Keep.of (Z.trans Z7)).trans kp) ((O.keepV (.same Z7)).keepV (.pen kp np)) ((hi.keepV (.same Z7)).keepV (.pen kp np)) as la lb
theorem g__law_words (T : TX K mg)  : FnG P w K mg base CX0 2 T.f__law_words (spWordsN) := by
  refine okG T.F__law_words sc__law_words (bd__law_words T.F__law_words) (fun vs H Q E h => ?_) (fun cdv A out s H vs Q E hr fr h => ?_)
  · obtain ⟨p, c, ns, a, g, n, rfl, W, ha, n0, n6, k⟩ := h
    rfl
  · obtain ⟨p, c, ns, a, g, n, rfl, W, ha, n0, n6, k⟩ := h
    refine ⟨_, (pss_cons (ps_set (i := 2) sc__law_words.nd rfl (Or.inr rfl) (pe_lst (pa_cons pe_str (pa_cons pe_str (pa_cons pe_str (pa_cons pe_str (pa_cons pe_str (pa_cons pe_str (pa_cons pe_str (pa_cons pe_str (pa_cons pe_str (pa_cons pe_str (pa_cons pe_str pa_nil)))))))))))))
 (pss_one (ps_ret (pe_lc (own := [("_law_again", 3)]) (g := gName 3) (tt := tYes) (by rfl) sc__law_words.nd (pi_range1 (by rfl) T.b_range (pa_cons (pv 1) pa_nil)) (blkOk_by (own := [("_law_again", 3)]) (N := N__law_words) (sc := defScope s__law_words) (by decide +kernel)) (fun _ _ _ _ _ => (pg_name (i := 3) sc__law_words.nd rfl (Or.inl rfl))) (fun _ _ _ _ _ => pts_nil) (fun _ _ _ _ _ => (show PE _ _ (tBM K "list" rPopAt (tVar 2) (tCons _ tNil)) from (pe_bm PySem.F.plainAttrs_list PySem.F.slot_list_pop PySem.F.type_list_pop mt_popAt (pv 2) (pa_cons (pe_callG (g__law_draw T) (hr.mono (by decide)) fr (by rfl) T.m__law_draw T.F__law_draw.kp pass0 (pa_cons (pv 0) (pa_cons (pe_callB (show CallR _ (.builtin "len") (rLenQ K) from call_len_seq) (by rfl) T.b_len PySem.boot_len (pa_cons (pv 2) pa_nil)) pa_nil))) pa_nil)))))))), ?_⟩
    obtain ⟨m, rfl⟩ := Int.eq_ofNat_of_zero_le n0
    refine ⟨by show 11 ≤ sizeLine; decide, fun L nL => ?_⟩
    have eL : upd H L (.lst [.str "a", .str "b", .str "ab", .str "x", .str "abcdefgh", .str "nets", .str "opens", .str "shu", .str "zz", .str "z", .str "m"]) L = some (.lst (words11.map V.str)) := upd_same
    have S1 := Same.new nL (o := .lst [.str "a", .str "b", .str "ab", .str "x", .str "abcdefgh", .str "nets", .str "opens", .str "shu", .str "zz", .str "z", .str "m"])
    generalize upd H L (.lst [.str "a", .str "b", .str "ab", .str "x", .str "abcdefgh", .str "nets", .str "opens", .str "shu", .str "zz", .str "z", .str "m"]) = H1 at eL S1 ⊢
    have nLp : L ≠ p := fun z => by subst z; rw [W.pn] at nL; cases nL
    have nLc : L ≠ c := fun z => by subst z; rw [W.cs] at nL; cases nL
    have W1 := W.keep S1
    refine ⟨_, rfl, _, rfl, by omega, by omega, fun D nD => ?_⟩
    have nDp : D ≠ p := fun z => by subst z; rw [W1.pn] at nD; cases nD
    have nDL : D ≠ L := fun z => by subst z; rw [eL] at nD; cases nD
    have nDH : H D = none := S1.free nD
    refine lc_range (lo := 0) (n := m) (fun i H' => ∃ rem acc a' g', PenAt H' p c ns a' g' ∧ Keep p H H' ∧ H' L = some (.lst (rem.map V.str)) ∧ rem.length + i = 11 ∧ (∀ x ∈ rem, x ∈ words11) ∧ H' D = some (.lst (acc.map V.str)) ∧ acc.length = i ∧ (∀ x ∈ acc, x ∈ words11) ∧ (acc ++ rem).Nodup ∧ a ≤ a' ∧ a' ≤ a + i)
      ⟨words11, [], a, g, W1.keep (Same.new nD), (Keep.of (S1.trans (Same.new nD))), hp_new eL nD, rfl, (fun x h => h), upd_same, rfl, (fun x h => nomatch h), words11_nd, Int.le_refl _, by omega⟩ ?_ ?_
    · rintro i H' hi ⟨rem, acc, a1, g1, Wi, ki, hL, lr, mr, hD, lac, mac, nd, la, lb⟩
      refine ⟨rfl, _, rfl, .inl ⟨rfl, _, SqL.of hL⟩, _, rfl, _, rfl, _, _, rfl, .inl (SqL.of hL), ?_⟩
      rw [List.length_map]
      refine ⟨p, c, ns, a1, g1, _, rfl, by omega, by omega, Wi, fun d a2 g2 H2 hp2 k2 d0 d1 l2 u2 => ?_⟩
      have hL2 := k2 _ _ hL nLp
      have hD2 := k2 _ _ hD nDp
      have W2 := Wi.next l2 (by omega) hp2 k2
      obtain ⟨kk, rfl⟩ := Int.eq_ofNat_of_zero_le d0
      have hk : kk < rem.length := by omega
      refine ⟨L, rem.map V.str, (kk : Int), kk, .str rem[kk], rfl, rfl, hL2, by omega, by omega, ?_, ?_, ?_⟩
      · rw [List.length_map]
        unfold seqIndex?
        simp
        omega
      · rw [List.getElem?_map, List.getElem?_eq_getElem hk]; rfl
      have e3 : (rem.map V.str).eraseIdx kk = (rem.eraseIdx kk).map V.str := map_erase _ _ _
      rw [e3]
      have hD3 := hp_mut (o := .lst ((rem.eraseIdx kk).map V.str)) hD2 nDL
      refine ⟨acc.map V.str, hD3, by rw [List.length_map]; exact lt_line (by omega), rem.eraseIdx kk, acc ++ [rem[kk]], a2, g2, ?_, ?_, ?_, ?_, ?_, ?_, ?_, ?_, nodup_pick nd hk, by omega, by omega⟩
      · exact ⟨hp_mut (hp_mut W2.pn nLp.symm) nDp.symm, hp_mut (hp_mut W2.cs nLc.symm) (fun z => by subst z; rw [W1.cs] at nD; cases nD), W2.la, W2.lb, W2.ln⟩
      · intro b o e n
        have e1 : b ≠ L := ne_of_none e nL
        have e2 : b ≠ D := ne_of_none (S1 _ _ e) nD
        exact hp_mut (hp_mut ((ki.trans k2) _ _ e n) e1) e2
      · exact hp_mut upd_same nDL.symm
      · rw [List.length_eraseIdx]; rw [if_pos hk]; omega
      · exact fun x h => mr x (List.mem_of_mem_eraseIdx h)
      · rw [upd_same, List.map_append]; rfl
      · rw [List.length_append]; show acc.length + 1 = i + 1; omega
      · intro x h
        rcases List.mem_append.mp h with h | h
        · exact mac x h
        · rw [List.mem_singleton.mp h]; exact mr _ (List.getElem_mem hk)
    rintro H' ⟨rem, acc, a1, g1, Wi, ki, hL, lr, mr, hD, lac, mac, nd, la, lb⟩
    exact k D acc a1 g1 H' Wi.pn ki nDH hD mac (List.nodup_append.mp nd).1 (by omega) la (by omega)
end
end RR
set_option maxHeartbeats 4000000
namespace RR
open PySem PySem.Spec PyProof.Rows L2
local macro_rules | `(tactic| walk_at "hp") => `(tactic| first | assumption | exact upd_same | (refine hp_new ?_ (by assumption); walk_at "hp") | (refine hp_mut ?_ (by first | assumption | (apply Ne.symm; assumption)); walk_at "hp") | (refine Same.at (by assumption) ?_; walk_at "hp"))
local macro_rules | `(tactic| walk_at "same") => `(tactic| first | exact fun _ _ z => z | assumption | (refine same_new ?_ (by assumption); walk_at "same") | (refine L2.Same.trans ?_ (by assumption); walk_at "same"))
local macro_rules | `(tactic| walk_at "sq") => `(tactic| exact SqL.of (by walk_at "hp"))
local macro_rules | `(tactic| walk_at "sqT") => `(tactic| exact SqT.of (by walk_at "hp"))

open LamX
theorem heard {K' : PySem.W.Frag} {mg' : Str → Option Value} (T : TX K' mg') (X : Cx) (hK : X.K = K') (hm : X.mg = mg') (q : Str) (cdv : Value) : GivesS X N__law_heard "_law_heard" (defScope s__law_heard) T.f__law_heard cdv (defBody s__law_heard) "_law_ask" q (TTn T.C_BadName T.C_BadValue T.C_NoValue) := by
  subst hK hm
  rintro f c' s H Q tl act hc hh
  refine ⟨_, (pss_cons (ps_asg (pe_tup (pa_cons pe_non (pa_cons pe_non pa_nil))) (pg_tup (by rfl) (pgs_cons (pg_name (i := 1) sc__law_heard.nd rfl (Or.inl rfl)) (pgs_cons (pg_name (i := 2) sc__law_heard.nd rfl (Or.inl rfl)) pgs_nil))))
 (pss_cons (ps_tryV (i := 3) rfl rfl rfl sc__law_heard.nd rfl rfl ⟨by rfl, by decide, .inl T.m_WebError⟩ L2.takes0 (fun W pn xe tk _ => (pss_one (ps_set (i := 2) sc__law_heard.nd rfl (Or.inl rfl) (act W pn xe _ _ tk)))) (fun a cls d pn => (pss_one (ps_set (i := 1) sc__law_heard.nd rfl (Or.inl rfl) (pv 3)))))
 (pss_cons (ps_if (pt_cmpR op_isN (pv 1) pe_non (nomark _)) (pss_one (ps_ret (pe_lst (pa_cons (pv 2) pa_nil)))) pss_nil)
 (pss_cons (ps_set (i := 4) sc__law_heard.nd rfl (Or.inl rfl) (pe_lst (pa_cons (pe_callB call_isX2 (by rfl) T.b_isinstance (by decide +kernel) (pa_cons (pv 1) (pa_cons (pe_glob (v := .ref T.C_BadName) (by rfl) T.m_BadName rfl) pa_nil))) (pa_cons (pe_callB call_isX2 (by rfl) T.b_isinstance (by decide +kernel) (pa_cons (pv 1) (pa_cons (pe_glob (v := .ref T.C_BadValue) (by rfl) T.m_BadValue rfl) pa_nil))) (pa_cons (pe_callB call_isX2 (by rfl) T.b_isinstance (by decide +kernel) (pa_cons (pv 1) (pa_cons (pe_glob (v := .ref T.C_NoValue) (by rfl) T.m_NoValue rfl) pa_nil))) pa_nil)))))
 (pss_cons (ps_expr (pe_bm PySem.F.plainAttrs_list PySem.F.slot_list_append PySem.F.type_list_append mt_append (pv 4) (pa_cons (pe_callB call_isX2 (by rfl) T.b_isinstance (by decide +kernel) (pa_cons (pv 1) (pa_cons (pe_glob (v := .ref T.C_NoRatio) (by rfl) T.m_NoRatio rfl) pa_nil))) pa_nil)))
 (pss_cons (ps_if (PW.pt (pw_or (pt_cmpR op_ne (pe_bm PySem.F.plainAttrs_list PySem.F.slot_list_count PySem.F.type_list_count mt_cntF (pv 4) (pa_cons pe_bl pa_nil)) pe_int (nomark _)) (pw_or1 (pt_not (pt_val (pe_callB call_isX2 (by rfl) T.b_isinstance (by decide +kernel) (pa_cons (pv 1) (pa_cons (pe_bltn (v := .ty "ValueError") (by rfl) T.b_ValueError (by decide +kernel) rfl) pa_nil)))))))) (pss_one (ps_ret (pe_tup (pa_cons pe_str pa_nil)))) pss_nil)
 (pss_one (ps_ret (pe_ifExp (pt_val (pe_ix ix_list (pv 4) pe_int (fun _ _ => rfl))) (pe_tup (pa_cons pe_str pa_nil)) (pe_tup (pa_cons (pe_ix ix_list (pe_lst (pa_cons pe_str (pa_cons pe_str (pa_cons pe_str pa_nil)))) (pe_bm PySem.F.plainAttrs_list PySem.F.slot_list_index PySem.F.type_list_index mt_index (pv 4) (pa_cons pe_bl pa_nil)) (fun _ _ => rfl)) (pa_cons (pe_atX (pv 1)) pa_nil)))))))))))), ?_⟩
  refine ⟨by show 2 ≤ sizeLine; decide, fun q0 n0 => ?_⟩
  obtain ⟨E', Q', ht, hn, he⟩ := hh _ (Same.new (o := .tup [.non, .non]) n0)
  have hc := hp_new (o := .tup [.non, .non]) hc n0
  refine ⟨q0, _, rfl, SqT.of upd_same, rfl, _, _, rfl, _, _, rfl, rfl, ?_⟩
  refine ⟨rfl, hc, E', Q', fun cls d H1 h1 => ?_, fun v H1 h1 => ?_, ht⟩
  · obtain ⟨dd, xv, rfl, hd, ⟨rfl, kq⟩ | ⟨rfl, kq⟩ | ⟨rfl, kq⟩⟩ := he cls d H1 h1
    · refine ⟨true, T.wBN, fun _ a na => ?_, fun z => nomatch z⟩
      have Z0 := Same.new (o := HeldX (.ref T.C_BadName) (some dd) a) na
      have hx : upd H1 a (HeldX (.ref T.C_BadName) (some dd) a) a = some (HeldX (.ref T.C_BadName) (some dd) a) := upd_same
      have hd := Z0 _ _ hd
      generalize upd H1 a (HeldX (.ref T.C_BadName) (some dd) a) = G at Z0 hx hd ⊢
      refine ⟨_, rfl, ?_⟩
      refine ⟨_, rfl, rfl, _, rfl, ?_⟩
      rw [decide_eq_false (fun z => by cases z)]
      refine iteF ?_
      refine ⟨_, rfl, a, _, _, _, _, true, rfl, T.eBN, hx, .inr ⟨_, _, rfl, hd⟩, fun _ z => z, kit_self, ?_⟩
      refine ⟨_, rfl, a, _, _, _, _, false, rfl, T.eBN, hx, .inr ⟨_, _, rfl, hd⟩, fun _ z => z, T.kBNBV, ?_⟩
      refine ⟨_, rfl, a, _, _, _, _, false, rfl, T.eBN, hx, .inr ⟨_, _, rfl, hd⟩, fun _ z => z, T.kBNNV, ?_⟩
      refine ⟨by show 3 ≤ sizeLine; decide, fun L nL => ?_⟩
      have aL : a ≠ L := fun z => by subst z; rw [hx] at nL; cases nL
      have dL : dd ≠ L := fun z => by subst z; rw [hd] at nL; cases nL
      refine ⟨_, rfl, .inl ⟨rfl, _, SqL.of upd_same⟩, _, rfl, a, _, _, _, _, false, rfl, T.eBN, hp_new hx nL, .inr ⟨_, _, rfl, hp_new hd nL⟩, fun _ z => z, T.kBNR, L, _, _, rfl, rfl, upd_same, (by show 3 < sizeLine; decide), ?_⟩
      have hL : upd (upd G L (.lst [V.bl true, V.bl false, V.bl false])) L (.lst [V.bl true, V.bl false, V.bl false, V.bl false]) L = some (.lst [V.bl true, V.bl false, V.bl false, V.bl false]) := upd_same
      have hx := hp_mut (o := .lst [V.bl true, V.bl false, V.bl false, V.bl false]) (hp_mut (o := .lst [V.bl true, V.bl false, V.bl false]) hx aL) aL
      have hd := hp_mut (o := .lst [V.bl true, V.bl false, V.bl false, V.bl false]) (hp_mut (o := .lst [V.bl true, V.bl false, V.bl false]) hd dL) dL
      have Z1 : Same G (upd (upd G L (.lst [V.bl true, V.bl false, V.bl false])) L (.lst [V.bl true, V.bl false, V.bl false, V.bl false])) := same_mut (Same.new nL) nL
      show tSeq _ _ _ _ (upd (upd G L (.lst [V.bl true, V.bl false, V.bl false])) L (.lst [V.bl true, V.bl false, V.bl false, V.bl false]))
      generalize upd (upd G L (.lst [V.bl true, V.bl false, V.bl false])) L (.lst [V.bl true, V.bl false, V.bl false, V.bl false]) = G2 at hL hx hd Z1 ⊢
      refine ⟨_, rfl, .inl ⟨rfl, _, SqL.of hL⟩, ?_⟩
      refine ⟨L, _, _, rfl, rfl, SqL.of hL, rfl, rfl, ?_⟩
      rw [show (List.countP (fun z => eqV z (V.bl true)) [V.bl true, V.bl false, V.bl false, V.bl false]) = 1 from rfl]
      refine ⟨rfl, _, rfl, ?_⟩
      rw [decide_eq_true (show V.int ((1 : Nat) : Int) = V.int 1 from rfl)]
      refine iteF ?_
      refine ⟨_, rfl, a, _, _, _, _, true, rfl, T.eBN, hx, .inr ⟨_, _, rfl, hd⟩, fun _ z => z, T.kVBN, _, rfl, ?_⟩
      refine iteF ?_
      refine ⟨_, rfl, _, _, _, _, rfl, rfl, SqL.of hL, rfl, _, rfl, ?_⟩
      refine iteF ?_
      refine ⟨by show 3 ≤ sizeLine; decide, fun L2 nL2 => ?_⟩
      refine ⟨_, rfl, .inl ⟨rfl, _, SqL.of (hp_new hL nL2)⟩, ?_⟩
      refine ⟨L, _, _, 0, _, rfl, rfl, SqL.of (hp_new hL nL2), rfl, rfl, rfl, rfl, (fun m z' h e => by exact absurd h (Nat.not_lt_zero m)), ?_⟩
      refine ⟨_, _, _, _, rfl, rfl, SqL.of upd_same, rfl, ?_⟩
      refine ⟨_, rfl, a, _, _, _, rfl, T.eBN, T.low_BadName.noN, hp_new hx nL2, hp_new hd nL2, ?_⟩
      refine ⟨by show 2 ≤ sizeLine; decide, fun q nq => ?_⟩
      exact kq q _ (Z0.trans (Z1.trans ((Same.new nL2).trans (Same.new nq)))) upd_same
    · refine ⟨true, T.wBV, fun _ a na => ?_, fun z => nomatch z⟩
      have Z0 := Same.new (o := HeldX (.ref T.C_BadValue) (some dd) a) na
      have hx : upd H1 a (HeldX (.ref T.C_BadValue) (some dd) a) a = some (HeldX (.ref T.C_BadValue) (some dd) a) := upd_same
      have hd := Z0 _ _ hd
      generalize upd H1 a (HeldX (.ref T.C_BadValue) (some dd) a) = G at Z0 hx hd ⊢
      refine ⟨_, rfl, ?_⟩
      refine ⟨_, rfl, rfl, _, rfl, ?_⟩
      rw [decide_eq_false (fun z => by cases z)]
      refine iteF ?_
      refine ⟨_, rfl, a, _, _, _, _, false, rfl, T.eBV, hx, .inr ⟨_, _, rfl, hd⟩, fun _ z => z, T.kBVBN, ?_⟩
      refine ⟨_, rfl, a, _, _, _, _, true, rfl, T.eBV, hx, .inr ⟨_, _, rfl, hd⟩, fun _ z => z, kit_self, ?_⟩
      refine ⟨_, rfl, a, _, _, _, _, false, rfl, T.eBV, hx, .inr ⟨_, _, rfl, hd⟩, fun _ z => z, T.kBVNV, ?_⟩
      refine ⟨by show 3 ≤ sizeLine; decide, fun L nL => ?_⟩
      have aL : a ≠ L := fun z => by subst z; rw [hx] at nL; cases nL
      have dL : dd ≠ L := fun z => by subst z; rw [hd] at nL; cases nL
      refine ⟨_, rfl, .inl ⟨rfl, _, SqL.of upd_same⟩, _, rfl, a, _, _, _, _, false, rfl, T.eBV, hp_new hx nL, .inr ⟨_, _, rfl, hp_new hd nL⟩, fun _ z => z, T.kBVR, L, _, _, rfl, rfl, upd_same, (by show 3 < sizeLine; decide), ?_⟩
      have hL : upd (upd G L (.lst [V.bl false, V.bl true, V.bl false])) L (.lst [V.bl false, V.bl true, V.bl false, V.bl false]) L = some (.lst [V.bl false, V.bl true, V.bl false, V.bl false]) := upd_same
      have hx := hp_mut (o := .lst [V.bl false, V.bl true, V.bl false, V.bl false]) (hp_mut (o := .lst [V.bl false, V.bl true, V.bl false]) hx aL) aL
      have hd := hp_mut (o := .lst [V.bl false, V.bl true, V.bl false, V.bl false]) (hp_mut (o := .lst [V.bl false, V.bl true, V.bl false]) hd dL) dL
      have Z1 : Same G (upd (upd G L (.lst [V.bl false, V.bl true, V.bl false])) L (.lst [V.bl false, V.bl true, V.bl false, V.bl false])) := same_mut (Same.new nL) nL
      show tSeq _ _ _ _ (upd (upd G L (.lst [V.bl false, V.bl true, V.bl false])) L (.lst [V.bl false, V.bl true, V.bl false, V.bl false]))
      generalize upd (upd G L (.lst [V.bl false, V.bl true, V.bl false])) L (.lst [V.bl false, V.bl true, V.bl false, V.bl false]) = G2 at hL hx hd Z1 ⊢
      refine ⟨_, rfl, .inl ⟨rfl, _, SqL.of hL⟩, ?_⟩
      refine ⟨L, _, _, rfl, rfl, SqL.of hL, rfl, rfl, ?_⟩
      rw [show (List.countP (fun z => eqV z (V.bl true)) [V.bl false, V.bl true, V.bl false, V.bl false]) = 1 from rfl]
      refine ⟨rfl, _, rfl, ?_⟩
      rw [decide_eq_true (show V.int ((1 : Nat) : Int) = V.int 1 from rfl)]
      refine iteF ?_
      refine ⟨_, rfl, a, _, _, _, _, true, rfl, T.eBV, hx, .inr ⟨_, _, rfl, hd⟩, fun _ z => z, T.kVBV, _, rfl, ?_⟩
      refine iteF ?_
      refine ⟨_, rfl, _, _, _, _, rfl, rfl, SqL.of hL, rfl, _, rfl, ?_⟩
      refine iteF ?_
      refine ⟨by show 3 ≤ sizeLine; decide, fun L2 nL2 => ?_⟩
      refine ⟨_, rfl, .inl ⟨rfl, _, SqL.of (hp_new hL nL2)⟩, ?_⟩
      refine ⟨L, _, _, 1, _, rfl, rfl, SqL.of (hp_new hL nL2), rfl, rfl, rfl, rfl, (fun m z' h e => by match m, h, e with | 0, _, e => (cases e; rfl)), ?_⟩
      refine ⟨_, _, _, _, rfl, rfl, SqL.of upd_same, rfl, ?_⟩
      refine ⟨_, rfl, a, _, _, _, rfl, T.eBV, T.low_BadValue.noN, hp_new hx nL2, hp_new hd nL2, ?_⟩
      refine ⟨by show 2 ≤ sizeLine; decide, fun q nq => ?_⟩
      exact kq q _ (Z0.trans (Z1.trans ((Same.new nL2).trans (Same.new nq)))) upd_same
    · refine ⟨true, T.wNV, fun _ a na => ?_, fun z => nomatch z⟩
      have Z0 := Same.new (o := HeldX (.ref T.C_NoValue) (some dd) a) na
      have hx : upd H1 a (HeldX (.ref T.C_NoValue) (some dd) a) a = some (HeldX (.ref T.C_NoValue) (some dd) a) := upd_same
      have hd := Z0 _ _ hd
      generalize upd H1 a (HeldX (.ref T.C_NoValue) (some dd) a) = G at Z0 hx hd ⊢
      refine ⟨_, rfl, ?_⟩
      refine ⟨_, rfl, rfl, _, rfl, ?_⟩
      rw [decide_eq_false (fun z => by cases z)]
      refine iteF ?_
      refine ⟨_, rfl, a, _, _, _, _, false, rfl, T.eNV, hx, .inr ⟨_, _, rfl, hd⟩, fun _ z => z, T.kNVBN, ?_⟩
      refine ⟨_, rfl, a, _, _, _, _, false, rfl, T.eNV, hx, .inr ⟨_, _, rfl, hd⟩, fun _ z => z, T.kNVBV, ?_⟩
      refine ⟨_, rfl, a, _, _, _, _, true, rfl, T.eNV, hx, .inr ⟨_, _, rfl, hd⟩, fun _ z => z, kit_self, ?_⟩
      refine ⟨by show 3 ≤ sizeLine; decide, fun L nL => ?_⟩
      have aL : a ≠ L := fun z => by subst z; rw [hx] at nL; cases nL
      have dL : dd ≠ L := fun z => by subst z; rw [hd] at nL; cases nL
      refine ⟨_, rfl, .inl ⟨rfl, _, SqL.of upd_same⟩, _, rfl, a, _, _, _, _, false, rfl, T.eNV, hp_new hx nL, .inr ⟨_, _, rfl, hp_new hd nL⟩, fun _ z => z, T.kNVR, L, _, _, rfl, rfl, upd_same, (by show 3 < sizeLine; decide), ?_⟩
      have hL : upd (upd G L (.lst [V.bl false, V.bl false, V.bl true])) L (.lst [V.bl false, V.bl false, V.bl true, V.bl false]) L = some (.lst [V.bl false, V.bl false, V.bl true, V.bl false]) := upd_same
      have hx := hp_mut (o := .lst [V.bl false, V.bl false, V.bl true, V.bl false]) (hp_mut (o := .lst [V.bl false, V.bl false, V.bl true]) hx aL) aL
      have hd := hp_mut (o := .lst [V.bl false, V.bl false, V.bl true, V.bl false]) (hp_mut (o := .lst [V.bl false, V.bl false, V.bl true]) hd dL) dL
      have Z1 : Same G (upd (upd G L (.lst [V.bl false, V.bl false, V.bl true])) L (.lst [V.bl false, V.bl false, V.bl true, V.bl false])) := same_mut (Same.new nL) nL
      show tSeq _ _ _ _ (upd (upd G L (.lst [V.bl false, V.bl false, V.bl true])) L (.lst [V.bl false, V.bl false, V.bl true, V.bl false]))
      generalize upd (upd G L (.lst [V.bl false, V.bl false, V.bl true])) L (.lst [V.bl false, V.bl false, V.bl true, V.bl false]) = G2 at hL hx hd Z1 ⊢
      refine ⟨_, rfl, .inl ⟨rfl, _, SqL.of hL⟩, ?_⟩
      refine ⟨L, _, _, rfl, rfl, SqL.of hL, rfl, rfl, ?_⟩
      rw [show (List.countP (fun z => eqV z (V.bl true)) [V.bl false, V.bl false, V.bl true, V.bl false]) = 1 from rfl]
      refine ⟨rfl, _, rfl, ?_⟩
      rw [decide_eq_true (show V.int ((1 : Nat) : Int) = V.int 1 from rfl)]
      refine iteF ?_
      refine ⟨_, rfl, a, _, _, _, _, true, rfl, T.eNV, hx, .inr ⟨_, _, rfl, hd⟩, fun _ z => z, T.kVNV, _, rfl, ?_⟩
      refine iteF ?_
      refine ⟨_, rfl, _, _, _, _, rfl, rfl, SqL.of hL, rfl, _, rfl, ?_⟩
      refine iteF ?_
      refine ⟨by show 3 ≤ sizeLine; decide, fun L2 nL2 => ?_⟩
      refine ⟨_, rfl, .inl ⟨rfl, _, SqL.of (hp_new hL nL2)⟩, ?_⟩
      refine ⟨L, _, _, 2, _, rfl, rfl, SqL.of (hp_new hL nL2), rfl, rfl, rfl, rfl, (fun m z' h e => by match m, h, e with | 0, _, e => (cases e; rfl) | 1, _, e => (cases e; rfl)), ?_⟩
      refine ⟨_, _, _, _, rfl, rfl, SqL.of upd_same, rfl, ?_⟩
      refine ⟨_, rfl, a, _, _, _, rfl, T.eNV, T.low_NoValue.noN, hp_new hx nL2, hp_new hd nL2, ?_⟩
      refine ⟨by show 2 ≤ sizeLine; decide, fun q nq => ?_⟩
      exact kq q _ (Z0.trans (Z1.trans ((Same.new nL2).trans (Same.new nq)))) upd_same
  · refine ⟨_, rfl, rfl, _, rfl, ?_⟩
    rw [decide_eq_true rfl]
    refine iteT ?_
    refine ⟨_, rfl, by show 1 ≤ sizeLine; decide, fun q nq => ?_⟩
    exact hn v H1 h1 q _ (Same.new nq) upd_same
end RR
set_option maxHeartbeats 4000000
namespace RR
open PySem PySem.Spec PyProof.Rows L2
local macro_rules | `(tactic| walk_at "hp") => `(tactic| first | assumption | exact upd_same | (refine hp_new ?_ (by assumption); walk_at "hp") | (refine hp_mut ?_ (by first | assumption | (apply Ne.symm; assumption)); walk_at "hp") | (refine Same.at (by assumption) ?_; walk_at "hp"))
local macro_rules | `(tactic| walk_at "same") => `(tactic| first | exact fun _ _ z => z | assumption | (refine same_new ?_ (by assumption); walk_at "same") | (refine L2.Same.trans ?_ (by assumption); walk_at "same"))
local macro_rules | `(tactic| walk_at "sq") => `(tactic| exact SqL.of (by walk_at "hp"))
local macro_rules | `(tactic| walk_at "sqT") => `(tactic| exact SqT.of (by walk_at "hp"))

open LamX
abbrev lamK : Str := (envOfC "_law_keeps" (defScope s__law_keeps) 0 0 Value.none).qual ++ "<lambda>"
abbrev lamL : Str := (envOfC "law" (defScope s_law) 0 0 Value.none).qual ++ "<lambda>"
abbrev tbs {K : PySem.W.Frag} {mg : Str → Option Value} (T : TX K mg) : List (Addr × Str) := [(T.PK, lamK), (T.PL, lamL)]
theorem tb_K {K : PySem.W.Frag} {mg : Str → Option Value} (T : TX K mg) : (T.PK, lamK) ∈ tbs T := List.mem_cons_self
theorem TX.hK {K : PySem.W.Frag} {mg : Str → Option Value} (T : TX K mg) : ∀ p ∈ tbs T, p.1 = T.PK → p.2 = lamK := by
  intro p hp e
  rcases List.mem_cons.mp hp with rfl | hp
  · rfl
  rw [List.mem_singleton.mp hp] at e ⊢
  exact absurd e.symm T.neKL
theorem tb_L {K : PySem.W.Frag} {mg : Str → Option Value} (T : TX K mg) : (T.PL, lamL) ∈ tbs T := (List.mem_cons_of_mem _ List.mem_cons_self)
theorem TX.hL {K : PySem.W.Frag} {mg : Str → Option Value} (T : TX K mg) : ∀ p ∈ tbs T, p.1 = T.PL → p.2 = lamL := by
  intro p hp e
  rcases List.mem_cons.mp hp with rfl | hp
  · exact absurd e T.neKL
  rw [List.mem_singleton.mp hp]
section
variable {P : Program} {w : World} {K : PySem.W.Frag} {mg : Str → Option Value} {base : Heap}
theorem g__law_keeps (T : TX K mg) (TB : TabB base mg T.cK T.PK) : FnG P w K mg base CX0 16 T.f__law_keeps (spKeeps T.C_Values T.C_Ratio (tbs T)) := by
  refine okGC T.F__law_keeps sc__law_keeps (bd__law_keeps T.F__law_keeps) (fun vs H Q E h => ?_) (fun cdv hcd A out s H vs Q E hr fr h => ?_)
  · obtain ⟨h, d, t, r, ks, ks', Tt, Rs, rfl, Va, Da, hr0, tb, k⟩ := h
    rfl
  · obtain ⟨h, d, t, r, ks, ks', Tt, Rs, rfl, Va, Da, hr0, tb, k⟩ := h
    have hcode : cdv = .ref T.cK := hcd.symm.trans T.codeK
    refine ⟨_, (pss_cons (ps_set (i := 3) sc__law_keeps.nd rfl (Or.inl rfl) (pe_callB (cr_sortFS (hu2_of hr)) (by rfl) T.b_sorted (by decide +kernel) (pa_cons (pe_lock (pe_lc (own := [("_law_name", 4)]) (g := gName 4) (tt := tYes) (by rfl) sc__law_keeps.nd (pi_keys (pv 1)) (blkOk_by (own := [("_law_name", 4)]) (N := N__law_keeps) (sc := defScope s__law_keeps) (by decide +kernel)) (fun _ _ _ _ _ => (pg_name (i := 4) sc__law_keeps.nd rfl (Or.inl rfl))) (fun _ _ _ _ _ => pts_nil) (fun _ _ _ _ _ => (pe_callTy SkE.call_str_str (by rfl) T.b_str (by decide +kernel) (pa_cons (pv 4) pa_nil))))) pa_nil)))
 (pss_cons (ps_if (PW.pt (pw_or (pt_cmpR op_ne (pe_callB (call_reprS (n := 2000) (by rw [sizeLine_eq]; decide) hr.units fr) (by rfl) T.b_repr (by decide +kernel) (pa_cons (pe_prop (pv 0) T.vc T.pr_names (ok_Values_names T) (hr.mono (by decide)) (bd_Values_names T.F_Values_names) .nil pass0 rfl) pa_nil)) (pe_callB (call_reprS (n := 2000) (by rw [sizeLine_eq]; decide) hr.units fr) (by rfl) T.b_repr (by decide +kernel) (pa_cons (pe_callTy call_tuple_of (by rfl) T.b_tuple (by decide +kernel) (pa_cons (pv 3) pa_nil)) pa_nil)) (nomark _)) (pw_or1 (pt_cmpR op_ne (pe_callB (call_lenO T.li.1 T.li.2 (r_Values___len__ T) (hr.mono (by decide)) pass0) (by rfl) T.b_len PySem.boot_len (pa_cons (pv 0) pa_nil)) (pe_callB call_len_seq (by rfl) T.b_len PySem.boot_len (pa_cons (pv 3) pa_nil)) (nomark _))))) (pss_one (ps_ret pe_bl)) pss_nil)
 (pss_cons (ps_if (pt_cmpR (op_neD hr.units) (pe_lc (own := [("_law_name", 4)]) (g := gName 4) (by rfl) sc__law_keeps.nd (pi_list (pv 3)) (blkOk_by (own := [("_law_name", 4)]) (N := N__law_keeps) (sc := defScope s__law_keeps) (by decide +kernel)) (fun _ _ _ _ _ => (pg_name (i := 4) sc__law_keeps.nd rfl (Or.inl rfl))) (fun _ _ _ _ _ => (pts_one (PW.pt (pw_or (pt_cmpR (show OpR _ (compareOp .NotIn) (rInO T.C_Values (spVHas K T.C_Values T.C_Ratio) E0 not) from op_notInO T.ci.1 T.ci.2 (r_Values___contains__ T) (hr.mono (by decide)) pass0) (pv 4) (pv 0) (by rfl)) (pw_or1 (pt_not (pt_val (pe_callG (g__law_is T) (hr.mono (by decide)) fr (by rfl) T.m__law_is T.F__law_is.kp pass0 (pa_cons (pe_ixO T.gi.1 T.gi.2.2 T.gi.2.1 (r_Values___getitem__ T) (hr.mono (by decide)) passX0 (pv 0) (pv 4)) (pa_cons (pe_dget (hu_of hr) (pv 1) (pv 4) (fun _ _ => rfl)) pa_nil)))))))))) (fun _ _ _ _ _ => (pv 4))) (pe_lst pa_nil) (nomark _)) (pss_one (ps_ret pe_bl)) pss_nil)
 (pss_cons (ps_if (pt_cmpR op_isN (pv 2) pe_non (nomark _)) (pss_one (ps_ret (pe_and (pe_cmpR op_isN (pe_prop (pv 0) T.vc T.pr_rest (ok_Values_rest_get T) (hr.mono (by decide)) (bd_Values_rest_get T.F_Values_rest_get) .nil pass0 rfl) pe_non (nomark _)) (pe_one (pe_cmpR (op_eqTS hr.units0) (pe_lamF (k := 12) (T := tbs T) T.F__law_heard (by rfl) T.m__law_heard T.F__law_heard.kp (bd__law_heard T.F__law_heard) sc__law_heard rfl (Or.inl rfl) (fun cdv => heard T _ rfl rfl _ cdv) TB hcode (tb_K T) T.hK (hr.mono (by decide)) fr (lamS_by (sc := defScope s__law_keeps) (by decide +kernel)) rfl (fun _ _ _ _ _ => rfl) (fun A0 o0 s0 H0 E0 f0 c0 hr fr => (pe_ixO T.gi.1 T.gi.2.2 T.gi.2.1 (r_Values___getitem__ T) (hr.mono (by decide)) (passes_call (takes_of rfl rfl rfl rfl) (fun _ _ _ _ h => h)) (pv 0) pe_str))) (pe_tup (pa_cons pe_str (pa_cons pe_str pa_nil))) (nomark _)))))) pss_nil)
 (pss_one (ps_ret (pe_and (pe_callG (g__law_is T) (hr.mono (by decide)) fr (by rfl) T.m__law_is T.F__law_is.kp pass0 (pa_cons (pe_prop (pv 0) T.vc T.pr_rest (ok_Values_rest_get T) (hr.mono (by decide)) (bd_Values_rest_get T.F_Values_rest_get) .nil pass0 rfl) (pa_cons (pv 2) pa_nil))) (pe_and (pe_callG (g__law_is T) (hr.mono (by decide)) fr (by rfl) T.m__law_is T.F__law_is.kp pass0 (pa_cons (pe_ixO T.gi.1 T.gi.2.2 T.gi.2.1 (r_Values___getitem__ T) (hr.mono (by decide)) passX0 (pv 0) pe_str) (pa_cons (pv 2) pa_nil))) (pe_one (pe_cmpR (show OpR _ (compareOp .NotIn) (rInO T.C_Values (spVHas K T.C_Values T.C_Ratio) E0 not) from op_notInO T.ci.1 T.ci.2 (r_Values___contains__ T) (hr.mono (by decide)) pass0) pe_str (pv 0) (by rfl))))))))))), ?_⟩
    obtain ⟨kvt, et, Dt⟩ := id Da
    have gt := Va.gt
    have go := Va.go
    obtain ⟨kvs, _, Ds⟩ := id Va.dct
    have es : srtS ks = srtS ks' := srtS_congr (Ds.perm Dt)
    have lks : ks.length = ks'.length := (Ds.perm Dt).length_eq
    have l11 := gt.le Ds
    have wds : ∀ x ∈ srtS ks', x ∈ wordsL := fun x hx => gt.kw Dt (srtS_mem.mp hx)
    refine ⟨t, .dK kvt, et, trivial, fun od => ?_⟩
    refine ⟨_, rfl, t, od, rfl, .inl ⟨kvt, upd_same, fun E1 nE => ?_⟩⟩
    have nEd : E1 ≠ t := fun z => by subst z; rw [upd_same] at nE; cases nE
    refine lc_it (walk_keys (d := t) (o := od) (kvs := kvt)) (fun i H' => Same (upd H t (.frz od (.dK kvt))) H' ∧ H' E1 = some (.lst ((ks'.take i).map V.str))) ⟨Same.new nE, upd_same⟩ (fun i H' _ z => z.1 _ _ upd_same) ?_ ?_
    · rintro i y H1 H' hi ⟨s1, hE⟩ ⟨rfl, key, v, ek, rfl⟩
      have e2 := congrArg (fun l => l[i]?) Dt.keys
      simp only [List.getElem?_map, ek] at e2
      obtain ⟨nm, en⟩ : ∃ nm, ks'[i]? = some nm := by
        cases en : ks'[i]? with
        | none => rw [en] at e2; cases e2
        | some nm => exact ⟨nm, rfl⟩
      rw [en] at e2
      obtain rfl : key = Sum.inr nm := Option.some.inj e2
      have ks1 := List.take_add_one (l := ks') (i := i)
      rw [en] at ks1
      refine ⟨rfl, _, rfl, nm, rfl, _, hE, ?_, same_mut s1 nE, ?_⟩
      · rw [List.length_map, List.length_take]
        have := gt.le Dt
        exact lt_line (by omega)
      · rw [upd_same, ks1, List.map_append]; rfl
    rintro H1 ⟨s1, hE⟩
    rw [Dt.len, List.take_length] at hE
    refine ⟨s1 _ _ upd_same, ?_⟩
    have S1 : Same H (upd H1 t (.dK kvt)) := fun b o e => by
      by_cases z : b = t
      · subst z; rw [et] at e; cases e; exact upd_same
      · exact hp_mut (s1 _ _ (hp_mut e z)) z
    refine ⟨E1, ks', rfl, SqL.of (hp_mut hE nEd), fun p1 np => ?_⟩
    have S2 := S1.trans (Same.new np (o := .lst ((srtS ks').map V.str)))
    have hp1 : upd (upd H1 t (.dK kvt)) p1 (.lst ((srtS ks').map V.str)) p1 = some (.lst ((srtS ks').map V.str)) := upd_same
    generalize upd (upd H1 t (.dK kvt)) p1 (.lst ((srtS ks').map V.str)) = H2 at S2 hp1 ⊢
    clear S1 s1 hE np nEd nE
    have V2 := Va.same S2
    obtain ⟨dx, u, eh, hu⟩ := id V2.ins
    refine ⟨_, rfl, h, dx, _, rfl, eh, h, d, ks, Tt, Rs, rfl, V2, fun p3 H3 s3 hp3 => ?_⟩
    rw [es] at hp3
    have sh := shows_words wds (by rw [srtS_len]; omega)
    refine ⟨p3, _, rfl, .tup (SqT.of hp3) (dp_strsT _), sh, ?_⟩
    have hp13 := s3 _ _ hp1
    refine ⟨_, rfl, p1, _, rfl, .inl ⟨SqL.of hp13, fun q4 n4 => ?_⟩⟩
    refine ⟨q4, _, rfl, .tup (SqT.of upd_same) (dp_strsT _), sh, ?_⟩
    have S4 := (S2.trans s3).trans (Same.new n4 (o := .tup ((srtS ks').map V.str)))
    have hp14 := hp_new (o := .tup ((srtS ks').map V.str)) hp13 n4
    generalize upd H3 q4 (.tup ((srtS ks').map V.str)) = H4 at S4 hp14 ⊢
    clear V2 eh hu hp3 hp13 n4 s3 S2 hp1
    refine ⟨rfl, _, rfl, ?_⟩
    rw [decide_eq_true rfl]
    refine iteF ?_
    have V4 := Va.same S4
    obtain ⟨dx, u, eh, hu⟩ := id V4.ins
    refine ⟨_, rfl, h, dx, _, rfl, eh, h, d, ks, Tt, Rs, rfl, V4, (ks.length : Nat), rfl, by omega, by omega, ?_⟩
    refine ⟨_, rfl, _, _, rfl, .inl (SqL.of hp14), ?_⟩
    rw [List.length_map, srtS_len, ← lks]
    refine ⟨rfl, _, rfl, ?_⟩
    rw [decide_eq_true rfl]
    refine iteF ?_
    -- the comprehension
    have et4 := S4 _ _ et
    refine ⟨_, rfl, p1, rfl, ⟨_, SqL.of hp14⟩, fun D5 n5 => ?_⟩
    refine lc_list (xs := (srtS ks').map V.str) (fun i H' => Same H4 H' ∧ H' D5 = some (.lst [])) ⟨Same.new n5, upd_same⟩ (fun i H' _ z => SqL.of (z.1 _ _ hp14)) ?_ ?_
    · rintro i y H' hy ⟨s5, hD⟩
      obtain ⟨nm, _, rfl, hm⟩ := at_strs hy
      have hm' := wds nm hm
      obtain ⟨q, eq⟩ := Option.isSome_iff_exists.mp ((Dt.dom nm).mp (srtS_mem.mp hm))
      have V5 := V4.same s5
      obtain ⟨dx, u, eh, hu⟩ := id V5.ins
      refine ⟨rfl, _, rfl, _, rfl, h, dx, _, rfl, eh, h, d, ks, Tt, Rs, _, rfl, V5, .inl ⟨nm, words_nm hm', _, rfl, ?_⟩⟩
      rw [eq]
      refine ⟨_, rfl, ?_⟩
      refine iteF ?_
      have g1 : GotV T.C_Ratio T.C_NoValue (.str nm) = GotV T.C_Ratio T.C_NoValue (.str nm) := rfl
      refine ⟨_, rfl, _, rfl, h, dx, _, rfl, eh, h, d, ks, Tt, Rs, _, rfl, V5, .inl ⟨nm, words_nm hm', ?_⟩⟩
      rw [eq]
      intro a ra
      obtain ⟨vt, ev, pt, rfl, rp⟩ := Dt.val nm q eq
      refine ⟨_, rfl, _, rfl, t, .ref pt, rfl, (by rw [← ev]; exact DGet.k (k := Sum.inr nm) (s5 _ _ et4)), ?_⟩
      have gq := gt.gv nm q eq
      have rp5 : Pr H' pt q.1 q.2 := s5 _ _ (S4 _ _ rp)
      refine ⟨.ref a, .ref pt, rfl, ⟨a, pt, q.1, q.2, rfl, rfl, ra, rp5, sm_mono gq.2.2.1 (by decide), sm_mono gq.2.2.2 (by decide)⟩, fun H6 s6 => ?_⟩
      refine ⟨_, rfl, ?_⟩
      refine iteF ?_
      exact ⟨s5.trans s6, s6 _ _ hD⟩
    rintro H5 ⟨s5, hD⟩
    refine ⟨by show 0 ≤ sizeLine; decide, fun E6 n6 => ?_⟩
    refine ⟨_, _, nil_dp (hp_new hD n6), nil_dp upd_same, by decide, by decide, _, rfl, ?_⟩
    have S6 := (S4.trans s5).trans (Same.new n6 (o := .lst []))
    generalize upd H5 E6 (.lst []) = H6 at S6 ⊢
    clear hD n6 s5 hp14 et4 eh hu V4 S4
    refine iteF ?_
    have V6 := Va.same S6
    have tb6 := Tabs.same tb S6
    obtain ⟨dx, u, eh, hu⟩ := id V6.ins
    have r6 : RestP H6 r Rs := hr0.stay (.ext (.of S6))
    have qn : NameV (.str "qqqqqqqq") "qqqqqqqq" := ⟨rfl, le_line16 (by decide), by decide +kernel⟩
    cases Rs with
    | none =>
      obtain rfl : r = .non := r6
      refine ⟨_, rfl, rfl, _, rfl, ?_⟩
      rw [decide_eq_true rfl]
      refine iteT ?_
      refine ⟨_, rfl, h, dx, _, rfl, eh, h, d, ks, Tt, none, rfl, V6, fun u0 hu0 => ?_⟩
      obtain rfl : u0 = .non := hu0
      refine ⟨rfl, _, rfl, ?_⟩
      rw [decide_eq_true rfl]
      refine iteT ?_
      refine ⟨tb6, fun G0 e0 t0 => heardG (x := .str "qqqqqqqq") (fun J0 s0 => ?_) fun q7 J7 s7 z7 => ?_⟩
      · have V7 := (V6.ext e0).same s0
        obtain ⟨dx, u, eh, hu⟩ := id V7.ins
        refine ⟨_, rfl, h, dx, _, rfl, eh, h, d, ks, Tt, none, _, rfl, V7, .inl ⟨_, qn, ?_⟩⟩
        rw [gt.q]
        exact wName_bad
      · refine ⟨by show 2 ≤ sizeLine; decide, fun q8 n8 => ?_⟩
        refine ⟨q7, q8, _, rfl, rfl, SqT.of (hp_new z7 n8), SqT.of upd_same, ?_, ?_⟩
        · intro z hz
          rcases List.mem_cons.mp hz with rfl | hz
          · exact .inl rfl
          · rw [List.mem_singleton.mp hz]; exact .inl rfl
        · exact k _ (((ExtN.of S6).trans (extN_same e0 s7)).trans (ExtN.of (Same.new n8))) (Tabs.same (Tabs.same t0 s7) (Same.new n8))
    | some q =>
      obtain ⟨pr, rfl, rp⟩ := r6
      refine ⟨_, rfl, rfl, _, rfl, ?_⟩
      rw [decide_eq_false (show V.ref pr ≠ V.non by intro z; cases z)]
      refine iteF ?_
      have gq : GV q := go
      refine ⟨_, rfl, h, dx, _, rfl, eh, h, d, ks, Tt, some q, rfl, V6, fun u0 hu0 => ?_⟩
      obtain ⟨a0, rfl, ra0⟩ := hu0
      refine ⟨_, rfl, .ref a0, .ref pr, rfl, ⟨a0, pr, q.1, q.2, rfl, rfl, ra0, rp, sm_mono gq.2.2.1 (by decide), sm_mono gq.2.2.2 (by decide)⟩, fun H7 s7 => ?_⟩
      refine ⟨_, rfl, ?_⟩
      refine iteT ?_
      have V7 := V6.same s7
      obtain ⟨dx, u, eh, hu⟩ := id V7.ins
      refine ⟨_, rfl, h, dx, _, rfl, eh, h, d, ks, Tt, some q, _, rfl, V7, .inl ⟨_, qn, ?_⟩⟩
      rw [gt.q]
      intro a1 ra1
      refine ⟨_, rfl, .ref a1, .ref pr, rfl, ⟨a1, pr, q.1, q.2, rfl, rfl, ra1, s7 _ _ rp, sm_mono gq.2.2.1 (by decide), sm_mono gq.2.2.2 (by decide)⟩, fun H8 s8 => ?_⟩
      refine ⟨_, rfl, ?_⟩
      refine iteT ?_
      have V8 := V7.same s8
      obtain ⟨dx, u, eh, hu⟩ := id V8.ins
      refine ⟨_, rfl, h, dx, _, rfl, eh, h, d, ks, Tt, some q, _, rfl, V8, .inl ⟨_, qn, _, rfl, ?_⟩⟩
      rw [gt.q]
      exact k _ (.of ((S6.trans s7).trans s8)) (Tabs.same (Tabs.same tb6 s7) s8)
end
end RR
set_option maxHeartbeats 4000000
namespace RR
open PySem PySem.Spec PyProof.Rows L2
local macro_rules | `(tactic| walk_at "hp") => `(tactic| first | assumption | exact upd_same | (refine hp_new ?_ (by assumption); walk_at "hp") | (refine hp_mut ?_ (by first | assumption | (apply Ne.symm; assumption)); walk_at "hp") | (refine Same.at (by assumption) ?_; walk_at "hp"))
local macro_rules | `(tactic| walk_at "same") => `(tactic| first | exact fun _ _ z => z | assumption | (refine same_new ?_ (by assumption); walk_at "same") | (refine L2.Same.trans ?_ (by assumption); walk_at "same"))
local macro_rules | `(tactic| walk_at "sq") => `(tactic| exact SqL.of (by walk_at "hp"))
local macro_rules | `(tactic| walk_at "sqT") => `(tactic| exact SqT.of (by walk_at "hp"))

open LamX
section
variable {P : Program} {w : World} {K : PySem.W.Frag} {mg : Str → Option Value} {base : Heap}
theorem g__law_given (T : TX K mg)  : FnG P w K mg base CX0 7 T.f__law_given (spGiven K T.C_Ratio) := by
  refine okG T.F__law_given sc__law_given (bd__law_given T.F__law_given) (fun vs H Q E h => ?_) (fun cdv A out s H vs Q E hr fr h => ?_)
  · obtain ⟨p, c, ns, a, g, rfl, W, ha, k⟩ := h
    rfl
  · obtain ⟨p, c, ns, a, g, rfl, W, ha, k⟩ := h
    refine ⟨_, (pss_cons (ps_par3 (i := 1) (j := 2) (l := 3) (by rfl) sc__law_given.nd rfl rfl rfl (by decide) (by decide) (by decide) rfl rfl rfl (pa_cons pe_dnewK (pa_cons pe_dnewK (pa_cons (pe_lst pa_nil) pa_nil))) (by rfl))
 (pss_cons (ps_for PassesOwn.never rfl (pi_list (pe_callG (g__law_words T) (hr.mono (by decide)) fr (by rfl) T.m__law_words T.F__law_words.kp pass0 (pa_cons (pv 0) (pa_cons (pe_callG (g__law_draw T) (hr.mono (by decide)) fr (by rfl) T.m__law_draw T.F__law_draw.kp pass0 (pa_cons (pv 0) (pa_cons pe_int pa_nil))) pa_nil)))) (pg_name (i := 4) sc__law_given.nd rfl (Or.inl rfl))
 (pss_cons (ps_asg (pe_callG (g__law_number T) (hr.mono (by decide)) fr (by rfl) T.m__law_number T.F__law_number.kp pass0 (pa_cons (pv 0) pa_nil)) (pg_tup (by rfl) (pgs_cons (pg_name (i := 5) sc__law_given.nd rfl (Or.inl rfl)) (pgs_cons (pg_name (i := 6) sc__law_given.nd rfl (Or.inl rfl)) pgs_nil))))
 (C8.pss_cut (ps_if (pt_cmpR op_eq (pe_callG (g__law_draw T) (hr.mono (by decide)) fr (by rfl) T.m__law_draw T.F__law_draw.kp pass0 (pa_cons (pv 0) (pa_cons pe_int pa_nil))) pe_int (nomark _)) (pss_cons (ps_set (i := 6) sc__law_given.nd rfl (Or.inl rfl) (pe_callG (g__law_odd_number T) (hr.mono (by decide)) fr (by rfl) T.m__law_odd_number T.F__law_odd_number.kp pass0 (pa_cons (pv 0) pa_nil)))
 (pss_one (ps_expr (pe_bm PySem.F.plainAttrs_list PySem.F.slot_list_append PySem.F.type_list_append mt_append (pv 3) (pa_cons (pv 4) pa_nil))))) pss_nil)
 (pss_cons (ps_dput (hu_of hr) (pv 1) (pv 4) (pv 6) rfl)
 (pss_one (ps_dput (hu_of hr) (pv 2) (pv 4) (pv 5) rfl))))))
 (pss_cons (ps_set (i := 7) sc__law_given.nd rfl (Or.inl rfl) (pe_lst pa_nil))
 (C8.pss_cut (ps_if (pt_cmpR op_eq (pe_callG (g__law_draw T) (hr.mono (by decide)) fr (by rfl) T.m__law_draw T.F__law_draw.kp pass0 (pa_cons (pv 0) (pa_cons pe_int pa_nil))) pe_int (nomark _)) (pss_cons (ps_set (i := 8) sc__law_given.nd rfl (Or.inr rfl) (pe_lst (pa_cons pe_str (pa_cons pe_str (pa_cons pe_str (pa_cons pe_str (pa_cons pe_str (pa_cons pe_str (pa_cons pe_str (pa_cons pe_str (pa_cons pe_str (pa_cons pe_str pa_nil))))))))))))
 (pss_one (ps_setLc (i := 7) (own := [("_law_again", 9)]) (g := gName 9) (tt := tYes) (by rfl) sc__law_given.nd rfl rfl (sw_true rfl rfl rfl (by decide +kernel)) (pi_range1 (by rfl) T.b_range (pa_cons (pe_op op_add pe_int (pe_callG (g__law_draw T) (hr.mono (by decide)) fr (by rfl) T.m__law_draw T.F__law_draw.kp pass0 (pa_cons (pv 0) (pa_cons pe_int pa_nil)))) pa_nil)) (blkOk_by (own := [("_law_again", 9)]) (N := N__law_given) (sc := defScope s__law_given) (by decide +kernel)) (fun _ _ _ _ _ => (pg_name (i := 9) sc__law_given.nd rfl (Or.inl rfl))) (fun _ _ _ _ _ => pts_nil) (fun _ _ _ _ _ => (show PE _ _ (tBM K "list" rPopAt (tVar 8) (tCons _ tNil)) from (pe_bm PySem.F.plainAttrs_list PySem.F.slot_list_pop PySem.F.type_list_pop mt_popAt (pv 8) (pa_cons (pe_callG (g__law_draw T) (hr.mono (by decide)) fr (by rfl) T.m__law_draw T.F__law_draw.kp pass0 (pa_cons (pv 0) (pa_cons (pe_callB (show CallR _ (.builtin "len") (rLenQ K) from call_len_seq) (by rfl) T.b_len PySem.boot_len (pa_cons (pv 8) pa_nil)) pa_nil))) pa_nil))))))) pss_nil)
 (pss_cons (ps_for PassesOwn.never rfl (pi_list (pv 7)) (pg_name (i := 10) sc__law_given.nd rfl (Or.inl rfl))
 (pss_one (ps_dput (hu_of hr) (pv 1) (pv 10) (pe_callG (g__law_pick T) (hr.mono (by decide)) fr (by rfl) T.m__law_pick T.F__law_pick.kp pass0 (pa_cons (pv 0) (pa_cons (pe_lst (pa_cons pe_int (pa_cons pe_non (pa_cons (pe_make (T.mk_Ratio) (ok_Ratio___init__ T) (hr.mono (by decide)) (by rfl) T.m_Ratio T.bd2.choose_spec.2 T.bd2.choose_spec.1 passX0 (pa_cons pe_int (pa_cons pe_int pa_nil))) pa_nil)))) pa_nil))) rfl)))
 (pss_cons (ps_if (pt_cmpR (op_neD hr.units) (pv 7) (pe_lst pa_nil) (nomark _)) (pss_one (ps_ret (pe_tup (pa_cons (pv 1) (pa_cons (pv 2) (pa_cons (pe_tup (pa_cons pe_str (pa_cons (pe_ix ix_list (pe_callB (cr_sortFS (hu2_of hr)) (by rfl) T.b_sorted (by decide +kernel) (pa_cons (pe_lc (own := [("_law_key", 10)]) (g := gName 10) (tt := tYes) (by rfl) sc__law_given.nd (pi_list (pv 7)) (blkOk_by (own := [("_law_key", 10)]) (N := N__law_given) (sc := defScope s__law_given) (by decide +kernel)) (fun _ _ _ _ _ => (pg_name (i := 10) sc__law_given.nd rfl (Or.inl rfl))) (fun _ _ _ _ _ => pts_nil) (fun _ _ _ _ _ => (pe_callTy SkE.call_str_str (by rfl) T.b_str (by decide +kernel) (pa_cons (pv 10) pa_nil)))) pa_nil)) pe_int (fun _ _ => rfl)) pa_nil))) pa_nil)))))) pss_nil)
 (pss_one (ps_ret (pe_tup (pa_cons (pv 1) (pa_cons (pv 2) (pa_cons (pe_ifExp (pt_cmpR (op_neD hr.units) (pv 3) (pe_lst pa_nil) (nomark _)) (pe_tup (pa_cons pe_str (pa_cons (pe_ix ix_list (pe_callB (cr_sortFS (hu2_of hr)) (by rfl) T.b_sorted (by decide +kernel) (pa_cons (pe_lc (own := [("_law_name", 4)]) (g := gName 4) (tt := tYes) (by rfl) sc__law_given.nd (pi_list (pv 3)) (blkOk_by (own := [("_law_name", 4)]) (N := N__law_given) (sc := defScope s__law_given) (by decide +kernel)) (fun _ _ _ _ _ => (pg_name (i := 4) sc__law_given.nd rfl (Or.inl rfl))) (fun _ _ _ _ _ => pts_nil) (fun _ _ _ _ _ => (pe_callTy SkE.call_str_str (by rfl) T.b_str (by decide +kernel) (pa_cons (pv 4) pa_nil)))) pa_nil)) pe_int (fun _ _ => rfl)) pa_nil))) pe_non) pa_nil)))))))))))), ?_⟩
    -- the three of them
    refine fun q1 n1 => ?_
    refine fun q2 n2 => ?_
    refine ⟨by show 0 ≤ sizeLine; decide, fun q3 n3 => ?_⟩
    have Z1 := Same.new n1 (o := .dK [])
    have Z2 := Z1.trans (Same.new n2 (o := .dK []))
    have Z := Z2.trans (Same.new n3 (o := .lst []))
    have h1 : upd (upd (upd H q1 (.dK [])) q2 (.dK [])) q3 (.lst []) q1 = some (.dK []) := hp_new (hp_new upd_same n2) n3
    have h2 : upd (upd (upd H q1 (.dK [])) q2 (.dK [])) q3 (.lst []) q2 = some (.dK []) := hp_new upd_same n3
    have h3 : upd (upd (upd H q1 (.dK [])) q2 (.dK [])) q3 (.lst []) q3 = some (.lst []) := upd_same
    have m2 : H q2 = none := Z1.free n2
    have m3 : H q3 = none := Z2.free n3
    have n12 : q1 ≠ q2 := fun z => by subst z; rw [upd_same] at n2; cases n2
    have n13 : q1 ≠ q3 := fun z => by subst z; rw [hp_new upd_same n2] at n3; cases n3
    have n23 : q2 ≠ q3 := fun z => by subst z; rw [upd_same] at n3; cases n3
    have S0 : GvSt K T.C_Ratio p c ns q1 q2 q3 H (upd (upd (upd H q1 (.dK [])) q2 (.dK [])) q3 (.lst [])) [] [] (fun _ => none) (fun _ => none) [] a g := by
      refine ⟨W.keep Z, Keep.of Z, ⟨[], h1, Dct.nil⟩, ⟨[], h2, Dct.nil⟩, h3, fun b hb => ?_, n12, n13, n23⟩
      have hb : H b = none := by
        simp only [List.mem_cons, List.not_mem_nil, or_false] at hb
        rcases hb with rfl | rfl | rfl
        · exact n1
        · exact m2
        · exact m3
      exact ⟨hb, (fun z => by rw [z, W.pn] at hb; cases hb), (fun z => by rw [z, W.cs] at hb; cases hb)⟩
    generalize upd (upd (upd H q1 (.dK [])) q2 (.dK [])) q3 (.lst []) = H0 at S0 ⊢
    clear h1 h2 h3 Z Z1 Z2 n12 n13 n23 n1 n2 n3 m2 m3
    refine ⟨_, _, _, rfl, ?_⟩
    -- the names
    refine ⟨_, rfl, _, rfl, p, c, ns, a, g, 7, rfl, by decide, by decide, S0.W, fun d1 a1 g1 H1 hp1 k1 d0 dm l1 u1 => ?_⟩
    have S1 := S0.pen l1 (by omega) hp1 k1
    refine ⟨p, c, ns, a1, g1, d1, rfl, S1.W, by omega, d0, by omega, fun l ws a2 g2 H2 hp2 k2 nl hl wm wnd wl l2 u2 => ?_⟩
    have S2 := S1.pen l2 (by omega) hp2 k2
    have wlen : ws.length ≤ 6 := by omega
    have lf : l ∉ [p, q1, q2, q3] := S1.fresh nl
    refine ⟨l, rfl, ⟨_, SqL.of hl⟩, ?_⟩
    refine for_list (xs := ws.map V.str) (fun i σ H' => ∃ T1 T2 wr a' g' e4 e5 e6, σ = [some (.ref p), some (.ref q1), some (.ref q2), some (.ref q3), e4, e5, e6, none, none, none, none] ∧ GvSt K T.C_Ratio p c ns q1 q2 q3 H H' (ws.take i) (ws.take i) T1 T2 wr a' g' ∧ H' l = some (.lst (ws.map V.str)) ∧
      wr = (ws.take i).filter (badAt T1) ∧ Agree (ws.take i) T1 T2 ∧ a2 ≤ a' ∧ a' ≤ a2 + 9 * i) ⟨_, _, [], a2, g2, none, none, none, rfl, by rw [List.take_zero]; exact S2, hl, by rw [List.take_zero]; rfl, (fun x h => by rw [List.take_zero] at h; cases h), by omega, by omega⟩ (fun i σ H' _ z => by obtain ⟨_, _, _, _, _, _, _, _, _, _, h, _⟩ := z; exact SqL.of h) ?_ ?_
    · rintro i y σ H' hy ⟨T1, T2, wr, a3, g3, e4, e5, e6, rfl, S3, hl3, ewr, ag, l3, u3⟩
      obtain ⟨nm, en, rfl, hm⟩ := at_strs hy
      have hi : i < ws.length := (List.getElem?_eq_some_iff.mp en).1
      have nmT : nm ∉ ws.take i := nodup_take wnd en
      have tk1 : ws.take (i + 1) = ws.take i ++ [nm] := by rw [List.take_add_one, en]; rfl
      refine ⟨_, rfl, p, c, ns, a3, g3, rfl, S3.W, by omega, fun r pq w q a4 g4 H4 hp4 k4 hr hpq hw hs np l4 u4 => ?_⟩
      have S4 := S3.pen l4 (by omega) hp4 k4
      have hl4 := k4 _ _ hl3 (fun z => lf (by rw [z]; exact List.mem_cons_self))
      have ow := S3.off (aside_good k4 hp4 hw)
      have opq := S4.offT hpq
      refine ⟨r, _, rfl, SqT.of hr, rfl, _, _, rfl, _, _, rfl, rfl, ?_⟩
      refine ⟨fun σ' H5 => ∃ v qv a5 g5, σ' = [some (.ref p), some (.ref q1), some (.ref q2), some (.ref q3), some (.str nm), some (.ref pq), some v, none, none, none, none] ∧ GvSt K T.C_Ratio p c ns q1 q2 q3 H H5 (ws.take i) (ws.take i) T1 T2 (wr ++ (if qv = badQ then [nm] else [])) a5 g5 ∧ H5 l = some (.lst (ws.map V.str)) ∧
        GivO K T.C_Ratio [p, q1, q2, q3] H5 v qv ∧ (qv = badQ ∨ qv = q) ∧ PrO [p, q1, q2, q3] H5 (.ref pq) q ∧ a4 ≤ a5 ∧ a5 ≤ a4 + 2, ?_, ?_⟩
      · have G0 : GivO K T.C_Ratio [p, q1, q2, q3] H4 w q := ⟨.inl hw, good_item hw, ow⟩
        have P0 : PrO [p, q1, q2, q3] H4 (.ref pq) q := ⟨⟨pq, rfl, hpq⟩, opq, hs⟩
        refine ⟨_, rfl, p, c, ns, a4, g4, 8, rfl, by decide, by decide, S4.W, fun d5 a5 g5 H5 hp5 k5 z5 y5 l5 u5 => ?_⟩
        have S5 := S4.pen l5 (by omega) hp5 k5
        have hl5 := k5 _ _ hl4 (fun z => lf (by rw [z]; exact List.mem_cons_self))
        have kl5 : KeepL [p, q1, q2, q3] H4 H5 := .keep k5 List.mem_cons_self
        refine ⟨rfl, _, rfl, ?_⟩
        rw [dec_int]
        refine ite2 (fun _ => ?_) (fun _ => ?_)
        · refine ⟨_, rfl, p, c, ns, a5, g5, rfl, S5.W, by omega, fun v a6 g6 H6 hp6 k6 bv iv av l6 u6 => ?_⟩
          have S6 := S5.pen l6 (by omega) hp6 k6
          have hl6 := k6 _ _ hl5 (fun z => lf (by rw [z]; exact List.mem_cons_self))
          have kl6 : KeepL [p, q1, q2, q3] H5 H6 := .keep k6 List.mem_cons_self
          have ov := S5.off av
          have lw : wr.length ≤ 6 := by
            rw [ewr]
            have := List.length_filter_le (badAt T1) (ws.take i)
            rw [List.length_take] at this
            omega
          refine ⟨_, rfl, .inl ⟨rfl, _, SqL.of S6.WR⟩, _, rfl, q3, _, _, rfl, rfl, S6.WR, (by rw [List.length_map]; exact lt_line (by omega)), ?_⟩
          have S7 := S6.addW nm
          have kl7 : KeepL [p, q1, q2, q3] H6 (upd H6 q3 (.lst (wr.map V.str ++ [.str nm]))) := .mut (by simp)
          have n3l : l ≠ q3 := fun z => lf (by rw [z]; simp)
          refine ⟨v, badQ, a6, g6, rfl, by rw [if_pos rfl]; exact S7, hp_mut hl6 n3l, GivO.keep ⟨.inr ⟨rfl, bv⟩, iv, ov⟩ kl7, .inl rfl, ((P0.keep kl5).keep kl6).keep kl7, by omega, by omega⟩
        · have nq : q ≠ badQ := good_ne hw.2
          exact ⟨w, q, a5, g5, rfl, by rw [if_neg nq, List.append_nil]; exact S5, hl5, G0.keep kl5, .inr rfl, P0.keep kl5, by omega, by omega⟩
      rintro σ' H5 ⟨v, qv, a5, g5, rfl, S5, hl5, gv, eqv, pv, l5, u5⟩
      have lt : (ws.take i).length ≤ 6 := by rw [List.length_take]; omega
      obtain ⟨kvs, ef, Df⟩ := id S5.F
      have lf1 := Df.len
      refine ⟨_, rfl, _, rfl, _, rfl, q1, _, rfl, DPut.k (k := Sum.inr nm) ef (lt_line (by omega)), ?_⟩
      have S6 := S5.putF nmT gv ef
      have kl6 : KeepL [p, q1, q2, q3] H5 (upd H5 q1 (.dK (putK kvs (Sum.inr nm) v))) := .mut (by simp)
      have hl6 := hp_mut (o := .dK (putK kvs (Sum.inr nm) v)) hl5 (show l ≠ q1 from fun z => lf (by rw [z]; simp))
      obtain ⟨kvt, et, Dt⟩ := id S6.TT
      have lt1 := Dt.len
      refine ⟨_, rfl, _, rfl, _, rfl, q2, _, rfl, DPut.k (k := Sum.inr nm) et (lt_line (by omega)), ?_⟩
      have S7 := S6.putT nmT (pv.keep kl6) et
      have hl7 := hp_mut (o := .dK (putK kvt (Sum.inr nm) (.ref pq))) hl6 (show l ≠ q2 from fun z => lf (by rw [z]; simp))
      refine ⟨_, _, _, a5, g5, _, _, _, rfl, by rw [tk1]; exact S7, hl7, ?_, by rw [tk1]; exact agree_snoc ag eqv, by omega, by omega⟩
      rw [tk1, filter_bad_snoc nmT, ewr]
    rintro σ H3 ⟨T1, T2, wr, a3, g3, e4, e5, e6, rfl, S3, hl3, ewr, ag, l3, u3⟩
    rw [List.length_map] at S3 ewr ag u3
    rw [List.take_length] at S3 ewr ag
    clear hl3 hl lf S2 S1 S0 k1 k2 hp1 hp2 nl
    -- the keys that are no names
    refine ⟨by show 0 ≤ sizeLine; decide, fun qk nk => ?_⟩
    refine ⟨fun σ' H5 => ∃ lk, ∃ ks : List Str, ∃ e8 a5 g5, σ' = [some (.ref p), some (.ref q1), some (.ref q2), some (.ref q3), e4, e5, e6, some (.ref lk), e8, none, none] ∧ GvSt K T.C_Ratio p c ns q1 q2 q3 H H5 ws ws T1 T2 wr a5 g5 ∧ H5 lk = some (.lst (ks.map V.str)) ∧ lk ∉ [p, q1, q2, q3] ∧ (∀ x ∈ ks, x ∈ oddL) ∧ ks.Nodup ∧ ks.length ≤ 2 ∧ a3 ≤ a5 ∧ a5 ≤ a3 + 4, ?_, ?_⟩
    · have S4 := S3.same (Same.new nk (o := .lst []))
      have hk4 : upd H3 qk (.lst []) qk = some (.lst (([] : List Str).map V.str)) := upd_same
      have kL := S3.fresh nk
      generalize upd H3 qk (.lst []) = H4 at S4 hk4 ⊢
      refine ⟨_, rfl, p, c, ns, a3, g3, 4, rfl, by decide, by decide, S4.W, fun d5 a5 g5 H5 hp5 k5 z5 y5 l5 u5 => ?_⟩
      have S5 := S4.pen l5 (by omega) hp5 k5
      have hk5 := k5 _ _ hk4 (fun z => kL (by rw [z]; exact List.mem_cons_self))
      refine ⟨rfl, _, rfl, ?_⟩
      rw [dec_int]
      refine ite2 (fun _ => ?_) (fun _ => ?_)
      · refine ⟨by show 10 ≤ sizeLine; decide, fun L nL => ?_⟩
        have eL : upd H5 L (.lst [.str "", .str "A", .str "open", .str "net", .str "shut", .str "abcdefghi", .str "a1", .str "a b", .str "ab ", .str "-"]) L = some (.lst (oddL.map V.str)) := upd_same
        have Y1 := Same.new nL (o := .lst [.str "", .str "A", .str "open", .str "net", .str "shut", .str "abcdefghi", .str "a1", .str "a b", .str "ab ", .str "-"])
        generalize upd H5 L (.lst [.str "", .str "A", .str "open", .str "net", .str "shut", .str "abcdefghi", .str "a1", .str "a b", .str "ab ", .str "-"]) = H6 at eL Y1 ⊢
        have W5 := S5.W
        have nLp : L ≠ p := fun z => by subst z; rw [W5.pn] at nL; cases nL
        have nLc : L ≠ c := fun z => by subst z; rw [W5.cs] at nL; cases nL
        have W6 := W5.keep Y1
        refine ⟨_, rfl, p, c, ns, a5, g5, 2, rfl, by decide, by decide, W6, fun d7 a7 g7 H7 hp7 k7 z7 y7 l7 u7 => ?_⟩
        have W7 := W6.next l7 (by omega) hp7 k7
        have eL7 := k7 _ _ eL nLp
        have K7 : Keep p H5 H7 := (Keep.of Y1).trans k7
        obtain ⟨m, hm⟩ : ∃ m : Nat, 1 + d7 = (m : Int) := ⟨(1 + d7).toNat, (Int.toNat_of_nonneg (by omega)).symm⟩
        refine ⟨_, _, rfl, rfl, ?_⟩
        refine ⟨(m : Int), congrArg (fun z => [V.int z]) hm, by omega, by omega, fun D nD => ?_⟩
        have nDp : D ≠ p := fun z => by subst z; rw [W7.pn] at nD; cases nD
        have nDL : D ≠ L := fun z => by subst z; rw [eL7] at nD; cases nD
        have nDH : H5 D = none := by
          cases h : H5 D with
          | none => rfl
          | some o => rw [K7 _ _ h nDp] at nD; cases nD
        refine lc_range (lo := 0) (n := m) (fun i H' => ∃ rem acc a' g', PenAt H' p c ns a' g' ∧ Keep p H5 H' ∧ H' L = some (.lst (rem.map V.str)) ∧ rem.length + i = 10 ∧ (∀ x ∈ rem, x ∈ oddL) ∧ H' D = some (.lst (acc.map V.str)) ∧ acc.length = i ∧ (∀ x ∈ acc, x ∈ oddL) ∧ (acc ++ rem).Nodup ∧ a7 ≤ a' ∧ a' ≤ a7 + i)
          ⟨oddL, [], a7, g7, W7.keep (Same.new nD), K7.trans (Keep.of (Same.new nD)), hp_new eL7 nD, rfl, (fun x h => h), upd_same, rfl, (fun x h => nomatch h), oddL_nd, Int.le_refl _, by omega⟩ ?_ ?_
        · rintro i H' hi ⟨rem, acc, a1, g1, Wi, ki, hL, lr, mr, hD, lac, mac, nd, la, lb⟩
          refine ⟨rfl, _, rfl, .inl ⟨rfl, _, SqL.of hL⟩, _, rfl, _, rfl, _, _, rfl, .inl (SqL.of hL), ?_⟩
          rw [List.length_map]
          refine ⟨p, c, ns, a1, g1, _, rfl, by omega, by omega, Wi, fun d a2 g2 H2 hp2 k2 d0 d1 l2 u2 => ?_⟩
          have hL2 := k2 _ _ hL nLp
          have hD2 := k2 _ _ hD nDp
          have W2 := Wi.next l2 (by omega) hp2 k2
          obtain ⟨kk, rfl⟩ := Int.eq_ofNat_of_zero_le d0
          have hk : kk < rem.length := by omega
          refine ⟨L, rem.map V.str, (kk : Int), kk, .str rem[kk], rfl, rfl, hL2, by omega, by omega, ?_, ?_, ?_⟩
          · rw [List.length_map]
            unfold seqIndex?
            simp
            omega
          · rw [List.getElem?_map, List.getElem?_eq_getElem hk]; rfl
          have e3 : (rem.map V.str).eraseIdx kk = (rem.eraseIdx kk).map V.str := map_erase _ _ _
          rw [e3]
          have hD3 := hp_mut (o := .lst ((rem.eraseIdx kk).map V.str)) hD2 nDL
          refine ⟨acc.map V.str, hD3, by rw [List.length_map]; exact lt_line (by omega), rem.eraseIdx kk, acc ++ [rem[kk]], a2, g2, ?_, ?_, ?_, ?_, ?_, ?_, ?_, ?_, nodup_pick nd hk, by omega, by omega⟩
          · exact ⟨hp_mut (hp_mut W2.pn nLp.symm) nDp.symm, hp_mut (hp_mut W2.cs nLc.symm) (fun z => by subst z; rw [W7.cs] at nD; cases nD), W2.la, W2.lb, W2.ln⟩
          · intro b o e n
            have e1 : b ≠ L := ne_of_none e nL
            have e2 : b ≠ D := ne_of_none e nDH
            exact hp_mut (hp_mut ((ki.trans k2) _ _ e n) e1) e2
          · exact hp_mut upd_same nDL.symm
          · rw [List.length_eraseIdx]; rw [if_pos hk]; omega
          · exact fun x h => mr x (List.mem_of_mem_eraseIdx h)
          · rw [upd_same, List.map_append]; rfl
          · rw [List.length_append]; show acc.length + 1 = i + 1; omega
          · intro x h
            rcases List.mem_append.mp h with h | h
            · exact mac x h
            · rw [List.mem_singleton.mp h]; exact mr _ (List.getElem_mem hk)
        rintro H' ⟨rem, acc, a1, g1, Wi, ki, hL, lr, mr, hD, lac, mac, nd, la, lb⟩
        exact ⟨D, acc, _, a1, g1, rfl, S5.pen (by omega) (by have := Wi.lb; omega) Wi.pn ki, hD, S5.fresh nDH, mac, (List.nodup_append.mp nd).1, by omega, by omega, by omega⟩
      · exact ⟨qk, [], _, a5, g5, rfl, S5, hk5, kL, (fun _ h => nomatch h), .nil, by decide, by omega, by omega⟩
    rintro σ' H5 ⟨lk, ks, e8, a5, g5, rfl, S5, hk5, kL, mks, nks, lks, l5, u5⟩
    have wsk : ∀ x ∈ ks, x ∉ ws := fun x hx m => odd_nw x (mks x hx) (words_in x (wm x m))
    refine ⟨_, rfl, lk, rfl, ⟨_, SqL.of hk5⟩, ?_⟩
    refine for_list (xs := ks.map V.str) (fun i σ H' => ∃ T3 a' g' e10, σ = [some (.ref p), some (.ref q1), some (.ref q2), some (.ref q3), e4, e5, e6, some (.ref lk), e8, none, e10] ∧ GvSt K T.C_Ratio p c ns q1 q2 q3 H H' (ws ++ ks.take i) ws T3 T2 wr a' g' ∧ H' lk = some (.lst (ks.map V.str)) ∧ (ks = [] → T3 = T1) ∧ a5 ≤ a' ∧ a' ≤ a5 + i)
      ⟨T1, a5, g5, none, rfl, by rw [List.take_zero, List.append_nil]; exact S5, hk5, fun _ => rfl, by omega, by omega⟩ (fun i σ H' _ z => by obtain ⟨_, _, _, _, _, _, h, _⟩ := z; exact SqL.of h) ?_ ?_
    · rintro i y σ H6 hy ⟨T3, a6, g6, e10, rfl, S6, hk6, _, l6, u6⟩
      obtain ⟨nm, en, rfl, hm⟩ := at_strs hy
      have hi : i < ks.length := (List.getElem?_eq_some_iff.mp en).1
      have tk1 : ws ++ ks.take (i + 1) = (ws ++ ks.take i) ++ [nm] := by rw [List.take_add_one, en, List.append_assoc]; rfl
      have nmT : nm ∉ ws ++ ks.take i := fun m => by
        rcases List.mem_append.mp m with m | m
        · exact wsk nm hm m
        · exact nodup_take nks en m
      refine ⟨_, rfl, ?_⟩
      refine fun a4 dx8 nx8 nd8 ne8 => ⟨a4, dx8, .int 1, .int 2, rfl, upd_same, .inl ⟨1, 2, rfl, rfl, by decide, sm_mono (show Sm 1 1 by decide) (by decide), sm_mono (show Sm 2 2 by decide) (by decide), rfl, ?_⟩⟩
      obtain ⟨G4, hF, s4, r4⟩ := newR_heap (C := T.C_Ratio) (t := 1) (b := 2) nx8 nd8
      rw [← hF]
      have lw : Low 1 2 := ⟨by decide, by decide⟩
      rw [low_lo lw, low_lb lw] at r4
      refine ⟨by show 3 ≤ sizeLine; decide, fun q7 n7 => ?_⟩
      have AV : AllV (fun v => ∃ q, GivR K T.C_Ratio G4 v q ∧ HasI T.C_Ratio G4 v ∧ Aside T.C_Ratio H6 v) [.int 1, .non, .ref a4] :=
        .cons ⟨(1, 1), .inl good_one, hasI_int (by decide), aside_flat (fun _ z => nomatch z)⟩ (.cons ⟨badQ, .inr ⟨rfl, .inr ⟨(odd_non T.oth).1, noR_non T.oth⟩⟩, hasI_non, aside_flat (fun _ z => nomatch z)⟩
          (.cons ⟨(1, 2), .inl ⟨.inl ⟨a4, rfl, r4⟩, gv_half⟩, hasI_rat r4 (by decide) (by decide), aside_rat s4 r4⟩ .nil))
      generalize hxs : ([.int 1, .non, .ref a4] : List V) = xs at AV
      have Z7 := Same.new n7 (o := .lst xs)
      have hx1 : xs.length = 3 := by rw [← hxs]; rfl
      have s7 := s4.trans Z7
      have S7 := S6.same s7
      have n7p : q7 ≠ p := fun z => by subst z; rw [s4 _ _ S6.W.pn] at n7; cases n7
      refine ⟨p, q7, c, ns, a6, g6, xs, rfl, S7.W, upd_same, n7p, by rw [hx1]; decide, by rw [hx1]; decide, fun x a' g' H' hp' kp hx la lb => ?_⟩
      have S8 := S7.pen la (by omega) hp' kp
      obtain ⟨q, gr, hI, as⟩ := AV.mem x hx
      have ox := S6.off as
      have kl8 : KeepL [p, q1, q2, q3] G4 H' := (KeepL.of Z7).trans (.keep kp List.mem_cons_self)
      have GO8 : GivO K T.C_Ratio [p, q1, q2, q3] H' x q := GivO.keep ⟨gr, hI, ox⟩ kl8
      have hk8 := kp _ _ (s7 _ _ hk6) (fun z => kL (by rw [z]; exact List.mem_cons_self))
      obtain ⟨kvs, ef, Df⟩ := id S8.F
      have lf1 := Df.len
      have lf2 : (ws ++ ks.take i).length ≤ 8 := by rw [List.length_append, List.length_take]; omega
      refine ⟨_, rfl, _, rfl, q1, _, rfl, DPut.k (k := Sum.inr nm) ef (lt_line (by omega)), ?_⟩
      have S9 := S8.putF nmT GO8 ef
      refine ⟨_, a', g', _, rfl, by rw [tk1]; exact S9, hp_mut hk8 (fun z => kL (by rw [z]; simp)), fun z => by rw [z] at hi; exact absurd hi (Nat.not_lt_zero _), by omega, by omega⟩
    rintro σ H6 ⟨T3, a6, g6, e10, rfl, S6, hk6, t31, l6, u6⟩
    rw [List.length_map] at S6 u6
    rw [List.take_length] at S6
    clear S5 hk5 S3
    -- what is due
    have kok : ∀ y ∈ ws ++ ks, y ∈ wordsL ++ oddL := fun y hy => by
      rcases List.mem_append.mp hy with h | h
      · exact in_wl (wm y h)
      · exact in_ol (mks y h)
    have kl8 : (ws ++ ks).length ≤ 12 := by rw [List.length_append]; omega
    refine ⟨_, rfl, by show 0 ≤ sizeLine; decide, fun E6 n6 => ?_⟩
    refine ⟨.list (ks.map PyData.str), .list [], .lst (SqL.of (hp_new hk6 n6)) (dp_strsT _), nil_dp upd_same, shaped_keys fun y hy => in_ol (mks y hy), by decide, _, rfl, ?_⟩
    rw [strs_eqv_nil]
    have S7 := S6.same (Same.new n6 (o := .lst []))
    have hk7 := hp_new (o := .lst []) hk6 n6
    generalize upd H6 E6 (.lst []) = H7 at S7 hk7 ⊢
    clear S6 hk6 n6
    cases hks : ks with
    | cons k0 kr =>
      refine iteT ?_
      have hne : ks ≠ [] := by rw [hks]; exact (fun z => nomatch z)
      refine ⟨_, rfl, _, rfl, ?_⟩
      refine ⟨_, rfl, lk, rfl, ⟨_, SqL.of hk7⟩, fun D nD => ?_⟩
      refine lc_list (xs := ks.map V.str) (fun i H' => Same H7 H' ∧ H' D = some (.lst ((ks.take i).map V.str))) ⟨Same.new nD, upd_same⟩ (fun i H' _ z => SqL.of (z.1 _ _ hk7)) ?_ ?_
      · rintro i y H' hy ⟨sA, hD⟩
        obtain ⟨nm, en, rfl, hm⟩ := at_strs hy
        have ks1 := List.take_add_one (l := ks) (i := i)
        rw [en] at ks1
        refine ⟨rfl, _, rfl, nm, rfl, _, hD, ?_, same_mut sA nD, ?_⟩
        · rw [List.length_map, List.length_take]; exact lt_line (by omega)
        · rw [upd_same, ks1, List.map_append]; rfl
      rintro HA ⟨sA, hD⟩
      rw [List.length_map, List.take_length] at hD
      refine ⟨D, ks, rfl, SqL.of hD, fun p1 np => ?_⟩
      obtain ⟨y0, yr, es⟩ := srt_cons hne
      rw [es]
      have s9 := sA.trans (Same.new np (o := .lst ((y0 :: yr).map V.str)))
      have hp9 : upd HA p1 (.lst ((y0 :: yr).map V.str)) p1 = some (.lst (.str y0 :: yr.map V.str)) := upd_same
      generalize upd HA p1 (.lst ((y0 :: yr).map V.str)) = H9 at s9 hp9 ⊢
      refine ⟨_, _, _, _, rfl, rfl, SqL.of hp9, atI_nat (j := 0) rfl, ?_⟩
      refine ⟨by show 2 ≤ sizeLine; decide, fun r1 nr1 => ?_⟩
      refine ⟨by show 3 ≤ sizeLine; decide, fun r2 nr2 => ?_⟩
      have sAll := (s9.trans (Same.new nr1 (o := .tup [.str "name", .str y0]))).trans (Same.new nr2 (o := .tup [.ref q1, .ref q2, .ref r1]))
      obtain ⟨kvs, GA⟩ := S7.at kok kl8
      have due : DueV (upd H9 r1 (.tup [.str "name", .str y0])) (.ref r1) (ws ++ ks) T3 T2 := by
        unfold DueV
        rw [head_due (ys := ks) (by rw [List.filter_append, words_noOdd wm, odds_all mks]; exact .refl _) es]
        exact ⟨r1, rfl, upd_same⟩
      exact k r2 q1 q2 kvs _ _ _ _ _ a6 g6 _ (sAll _ _ S7.W.pn) (S7.kp.trans (Keep.of sAll)) upd_same (GA.ext (ExtN.of sAll)) (due.ext (ExtN.of (Same.new nr2))) (by omega) (by omega)
    | nil =>
      subst hks
      refine iteF ?_
      obtain rfl : T3 = T1 := t31 rfl
      rw [List.append_nil] at S7 kok kl8
      have noO : (srtS ws).find? oddN = none := none_due (words_noOdd wm)
      refine ⟨_, rfl, _, rfl, ?_⟩
      have lwr : wr.length ≤ 6 := by
        rw [ewr]
        have := List.length_filter_le (badAt T3) ws
        omega
      have mwr : ∀ x ∈ wr, x ∈ words11 := fun x hx => by
        rw [ewr] at hx
        exact wm x (List.mem_filter.mp hx).1
      refine ⟨_, rfl, by show 0 ≤ sizeLine; decide, fun E8 n8 => ?_⟩
      refine ⟨.list (wr.map PyData.str), .list [], .lst (SqL.of (hp_new S7.WR n8)) (dp_strsT _), nil_dp upd_same, shaped_keys fun y hy => in_wl (mwr y hy), by decide, _, rfl, ?_⟩
      rw [strs_eqv_nil]
      have S8 := S7.same (Same.new n8 (o := .lst []))
      generalize upd H7 E8 (.lst []) = H8 at S8 ⊢
      clear S7 n8
      cases hwr : wr with
      | cons k0 kr =>
        refine iteT ?_
        have hne : wr ≠ [] := by rw [hwr]; exact (fun z => nomatch z)
        refine ⟨_, rfl, q3, rfl, ⟨_, SqL.of S8.WR⟩, fun D nD => ?_⟩
        refine lc_list (xs := wr.map V.str) (fun i H' => Same H8 H' ∧ H' D = some (.lst ((wr.take i).map V.str))) ⟨Same.new nD, upd_same⟩ (fun i H' _ z => SqL.of (z.1 _ _ S8.WR)) ?_ ?_
        · rintro i y H' hy ⟨sA, hD⟩
          obtain ⟨nm, en, rfl, hm⟩ := at_strs hy
          have ks1 := List.take_add_one (l := wr) (i := i)
          rw [en] at ks1
          refine ⟨rfl, _, rfl, nm, rfl, _, hD, ?_, same_mut sA nD, ?_⟩
          · rw [List.length_map, List.length_take]; exact lt_line (by omega)
          · rw [upd_same, ks1, List.map_append]; rfl
        rintro HA ⟨sA, hD⟩
        rw [List.length_map, List.take_length] at hD
        refine ⟨D, wr, rfl, SqL.of hD, fun p1 np => ?_⟩
        obtain ⟨y0, yr, es⟩ := srt_cons hne
        rw [es]
        have s9 := sA.trans (Same.new np (o := .lst ((y0 :: yr).map V.str)))
        have hp9 : upd HA p1 (.lst ((y0 :: yr).map V.str)) p1 = some (.lst (.str y0 :: yr.map V.str)) := upd_same
        generalize upd HA p1 (.lst ((y0 :: yr).map V.str)) = H9 at s9 hp9 ⊢
        refine ⟨_, _, _, _, rfl, rfl, SqL.of hp9, atI_nat (j := 0) rfl, ?_⟩
        refine ⟨by show 2 ≤ sizeLine; decide, fun r1 nr1 => ?_⟩
        refine ⟨by show 3 ≤ sizeLine; decide, fun r2 nr2 => ?_⟩
        have sAll := (s9.trans (Same.new nr1 (o := .tup [.str "value", .str y0]))).trans (Same.new nr2 (o := .tup [.ref q1, .ref q2, .ref r1]))
        obtain ⟨kvs, GA⟩ := S8.at kok kl8
        have due : DueV (upd H9 r1 (.tup [.str "value", .str y0])) (.ref r1) ws T3 T2 := by
          unfold DueV
          rw [noO, head_due (ys := wr) (by rw [ewr]) es]
          exact ⟨r1, rfl, upd_same⟩
        exact k r2 q1 q2 kvs _ _ _ _ _ a6 g6 _ (sAll _ _ S8.W.pn) (S8.kp.trans (Keep.of sAll)) upd_same (GA.ext (ExtN.of sAll)) (due.ext (ExtN.of (Same.new nr2))) (by omega) (by omega)
      | nil =>
        subst hwr
        refine iteF ?_
        refine ⟨by show 3 ≤ sizeLine; decide, fun r2 nr2 => ?_⟩
        have due : DueV H8 .non ws T3 T2 := by
          unfold DueV
          rw [noO, none_due ewr.symm]
          refine ⟨rfl, ?_⟩
          obtain ⟨kvs, _, Df⟩ := S8.F
          obtain ⟨kvt, _, Dt⟩ := S8.TT
          funext x
          by_cases hx : x ∈ ws
          · refine ag x hx fun z => ?_
            have : x ∈ ws.filter (badAt T3) := List.mem_filter.mpr ⟨hx, decide_eq_true z⟩
            rw [← ewr] at this
            cases this
          · have h1 := mt (Df.dom x).mpr hx
            have h2 := mt (Dt.dom x).mpr hx
            cases e1 : T3 x with
            | none => cases e2 : T2 x with
              | none => rfl
              | some _ => rw [e2] at h2; exact absurd rfl h2
            | some _ => rw [e1] at h1; exact absurd rfl h1
        have e9 := ExtN.of (Same.new nr2 (o := .tup [.ref q1, .ref q2, .non]))
        obtain ⟨kvs, GA⟩ := S8.at kok kl8
        exact k r2 q1 q2 kvs _ _ _ _ _ a6 g6 _ (hp_new S8.W.pn nr2) (S8.kp.new nr2) upd_same (GA.ext e9) (due.ext e9) (by omega) (by omega)
end
end RR
set_option maxHeartbeats 4000000
namespace RR
open PySem PySem.Spec PyProof.Rows L2
local macro_rules | `(tactic| walk_at "hp") => `(tactic| first | assumption | exact upd_same | (refine hp_new ?_ (by assumption); walk_at "hp") | (refine hp_mut ?_ (by first | assumption | (apply Ne.symm; assumption)); walk_at "hp") | (refine Same.at (by assumption) ?_; walk_at "hp"))
local macro_rules | `(tactic| walk_at "same") => `(tactic| first | exact fun _ _ z => z | assumption | (refine same_new ?_ (by assumption); walk_at "same") | (refine L2.Same.trans ?_ (by assumption); walk_at "same"))
local macro_rules | `(tactic| walk_at "sq") => `(tactic| exact SqL.of (by walk_at "hp"))
local macro_rules | `(tactic| walk_at "sqT") => `(tactic| exact SqT.of (by walk_at "hp"))

open LamX
section
variable {P : Program} {w : World} {K : PySem.W.Frag} {mg : Str → Option Value} {base : Heap}
theorem g__law_equal_right (T : TX K mg)  : FnG P w K mg base CX0 15 T.f__law_equal_right (spEqualR K T.C_Values T.C_Ratio) := by
  refine okG T.F__law_equal_right sc__law_equal_right (bd__law_equal_right T.F__law_equal_right) (fun vs H Q E h => ?_) (fun cdv A out s H vs Q E hr fr h => ?_)
  · obtain ⟨p, c, ns, a, g, h, d, f, t, kvs, fk, Tt, tk, rfl, W, ha, Va, GA, n1, n2, k⟩ := h
    rfl
  · obtain ⟨p, c, ns, a, g, h, d, f, t, kvs, fk, Tt, tk, rfl, W, ha, Va, GA, n1, n2, k⟩ := h
    refine ⟨_, (pss_cons (ps_set (i := 4) sc__law_equal_right.nd rfl (Or.inl rfl) (pe_callTy (call_dictP (by rfl)) (by rfl) T.b_dict (by decide +kernel) (pa_cons (pe_lc (own := [("_law_name", 5)]) (g := gName 5) (tt := tYes) (by rfl) sc__law_equal_right.nd (pi_list (pe_revL (pe_callTy (call_listD rfl) (by rfl) T.b_list (by decide +kernel) (pa_cons (pv 2) pa_nil)))) (blkOk_by (own := [("_law_name", 5)]) (N := N__law_equal_right) (sc := defScope s__law_equal_right) (by decide +kernel)) (fun _ _ _ _ _ => (pg_name (i := 5) sc__law_equal_right.nd rfl (Or.inl rfl))) (fun _ _ _ _ _ => pts_nil) (fun _ _ _ _ _ => (pe_tup (pa_cons (pv 5) (pa_cons (pe_dget (hu_of hr) (pv 2) (pv 5) (fun _ _ => rfl)) pa_nil))))) pa_nil)))
 (pss_cons (ps_if (PW.pt (pw_or (pt_cmpR (op_neY T.neV T.rcV.cm T.eqV.1 T.eqV.2 (r_Values___eq__ T) (hr.mono (by decide)) pass0) (pv 1) (pe_make T.mk_Values (ok_Values___init__ T) (hr.mono (by decide)) (by rfl) T.m_Values T.bdV.choose_spec.2 T.bdV.choose_spec.1 passX0 (pa_cons (pv 4) pa_nil)) (nomark _)) (pw_or (pt_cmpR (op_neY T.neV T.rcV.cm T.eqV.1 T.eqV.2 (r_Values___eq__ T) (hr.mono (by decide)) pass0) (pe_makeK0 T.mk_Values (ok_Values___init__ T) (hr.mono (by decide)) (by rfl) T.m_Values T.kbV passX0 (pk_cons (pv 4) pk_nil)) (pv 1) (nomark _)) (pw_or1 (pt_not (pt_cmpR (op_cmpY (fun _ _ => rfl) T.eqV.1 T.eqV.2 (r_Values___eq__ T) (hr.mono (by decide)) pass0) (pv 1) (pe_make T.mk_Values (ok_Values___init__ T) (hr.mono (by decide)) (by rfl) T.m_Values T.bdV.choose_spec.2 T.bdV.choose_spec.1 passX0 (pa_cons (pv 2) pa_nil)) (nomark _))))))) (pss_one (ps_ret pe_bl)) pss_nil)
 (pss_cons (ps_set (i := 6) sc__law_equal_right.nd rfl (Or.inl rfl) (pe_callTy call_dictD (by rfl) T.b_dict (by decide +kernel) (pa_cons (pv 2) pa_nil)))
 (pss_cons (ps_set (i := 5) sc__law_equal_right.nd rfl (Or.inl rfl) (pe_callG (g__law_pick T) (hr.mono (by decide)) fr (by rfl) T.m__law_pick T.F__law_pick.kp pass0 (pa_cons (pv 0) (pa_cons (pe_op op_cat (pe_callTy (call_listD rfl) (by rfl) T.b_list (by decide +kernel) (pa_cons (pv 2) pa_nil)) (pe_lst (pa_cons pe_str pa_nil))) pa_nil))))
 (C8.pss_cut (ps_if (PW.pt (pw_and (pt_cmp (pc_din (hu_of hr) (pv 5) (pv 6)) rfl) (pw_and1 (pt_cmpR op_eq (pe_callG (g__law_draw T) (hr.mono (by decide)) fr (by rfl) T.m__law_draw T.F__law_draw.kp pass0 (pa_cons (pv 0) (pa_cons pe_int pa_nil))) pe_int (nomark _))))) (pss_one (ps_expr (pe_dpop1 (pv 6) (pv 5) ⟨rfl, rfl, rfl, rfl⟩))) (pss_one (ps_dput (hu_of hr) (pv 6) (pv 5) (pe_ifExp (pt_cmp (pc_din (hu_of hr) (pv 5) (pv 3)) rfl) (pe_make (T.mk_Ratio) (ok_Ratio___init__ T) (hr.mono (by decide)) (by rfl) T.m_Ratio T.bd2.choose_spec.2 T.bd2.choose_spec.1 passX0 (pa_cons (pe_op op_add (pe_ix ix_tup (pe_dget (hu_of hr) (pv 3) (pv 5) (fun _ _ => rfl)) pe_int (fun _ _ => rfl)) pe_int) (pa_cons (pe_ix ix_tup (pe_dget (hu_of hr) (pv 3) (pv 5) (fun _ _ => rfl)) pe_int (fun _ _ => rfl)) pa_nil))) pe_int) rfl)))
 (pss_cons (ps_if (PW.pt (pw_or (pt_cmpR (op_cmpY (fun _ _ => rfl) T.eqV.1 T.eqV.2 (r_Values___eq__ T) (hr.mono (by decide)) pass0) (pv 1) (pe_make T.mk_Values (ok_Values___init__ T) (hr.mono (by decide)) (by rfl) T.m_Values T.bdV.choose_spec.2 T.bdV.choose_spec.1 passX0 (pa_cons (pv 6) pa_nil)) (nomark _)) (pw_or1 (pt_not (pt_cmpR (op_neY T.neV T.rcV.cm T.eqV.1 T.eqV.2 (r_Values___eq__ T) (hr.mono (by decide)) pass0) (pe_make T.mk_Values (ok_Values___init__ T) (hr.mono (by decide)) (by rfl) T.m_Values T.bdV.choose_spec.2 T.bdV.choose_spec.1 passX0 (pa_cons (pv 6) pa_nil)) (pv 1) (nomark _)))))) (pss_one (ps_ret pe_bl)) pss_nil)
 (pss_one (ps_ret (pe_cmpR (op_eqD hr.units) (pe_lc (own := [("_law_value", 7)]) (g := gName 7) (by rfl) sc__law_equal_right.nd (pi_tup (pe_tup (pa_cons pe_non (pa_cons pe_int (pa_cons (pv 2) (pa_cons (pe_callTy (call_listD rfl) (by rfl) T.b_list (by decide +kernel) (pa_cons (pv 3) pa_nil)) (pa_cons (pe_callTy (call_strO T.stV.1 T.stV.2 (r_Values___str__ T) (hr.mono (by decide)) pass0) (by rfl) T.b_str (by decide +kernel) (pa_cons (pv 1) pa_nil)) (pa_cons (pe_lst (pa_cons (pv 1) pa_nil)) (pa_cons pe_dnewK pa_nil))))))))) (blkOk_by (own := [("_law_value", 7)]) (N := N__law_equal_right) (sc := defScope s__law_equal_right) (by decide +kernel)) (fun _ _ _ _ _ => (pg_name (i := 7) sc__law_equal_right.nd rfl (Or.inl rfl))) (fun _ _ _ _ _ => (pts_one (pt_cmpR (show OpR _ (compareOp .Eq) (rCmpY K T.C_Values (spVEq K T.C_Values T.C_Ratio) E0) from (op_cmpY (fun _ _ => rfl) T.eqV.1 T.eqV.2 (r_Values___eq__ T) (hr.mono (by decide)) pass0)) (pv 1) (pv 7) (nomark _)))) (fun _ _ _ _ _ => (pv 7))) (pe_lst pa_nil) (nomark _)))))))))), ?_⟩
    have F0 := GA.fine n1 n2
    obtain ⟨kvt, et, Dt⟩ := id GA.ht
    have ef := GA.hf
    obtain ⟨dx, uu, eh, hu⟩ := id Va.ins
    obtain ⟨kvh, edh, Dh⟩ := id Va.dct
    have fl := F0.len
    have eqa : ∀ {h' d' : Addr} {ks' : List Str} {H' : Hp}, ValAt T.C_Values T.C_Ratio H' h' d' ks' Tt none → eqTold (srtS fk) ks'.length Tt Tt = true := fun V' => eq_self Va V'
    have eqb : ∀ {h' d' : Addr} {ks' : List Str} {H' : Hp}, ValAt T.C_Values T.C_Ratio H' h' d' ks' Tt none → eqTold ks' (srtS fk).length Tt Tt = true := fun V' => eq_self V' Va
    -- the same, turned about
    refine ⟨_, rfl, f, kvs, rfl, .inl ef, fun l nl => ?_⟩
    rw [F0.D.strs]
    refine ⟨l, fk.map V.str, rfl, SqL.of upd_same, fun l2 nl2 => ?_⟩
    rw [← List.map_reverse]
    have sA := (Same.new nl (o := .lst (fk.map V.str))).trans (Same.new nl2 (o := .lst (fk.reverse.map V.str)))
    have hl2 : upd (upd H l (.lst (fk.map V.str))) l2 (.lst (fk.reverse.map V.str)) l2 = some (.lst (fk.reverse.map V.str)) := upd_same
    generalize upd (upd H l (.lst (fk.map V.str))) l2 (.lst (fk.reverse.map V.str)) = HA at sA hl2 ⊢
    refine ⟨l2, rfl, ⟨_, SqL.of hl2⟩, fun D nD => ?_⟩
    refine lc_list (xs := fk.reverse.map V.str) (fun i H' => Same HA H' ∧ ∃ ps : List Addr, ∃ prs : List (Key × V), H' D = some (.lst (ps.map V.ref)) ∧ ps.length = i ∧ Paired (fun p kv => H' p = some (.tup [kV kv.1, kv.2])) ps prs ∧ prs = pairsOf kvs (fk.reverse.take i))
      ⟨Same.new nD, [], [], upd_same, rfl, .nil, by rw [List.take_zero]; rfl⟩ (fun i H' _ z => SqL.of (z.1 _ _ hl2)) ?_ ?_
    · rintro i y H' hy ⟨s1, ps, prs, hD, lps, pp, epr⟩
      obtain ⟨nm, en, rfl, hm⟩ := at_strs hy
      have hi : i < fk.reverse.length := (List.getElem?_eq_some_iff.mp en).1
      rw [List.length_reverse] at hi
      have hk := List.mem_reverse.mp hm
      obtain ⟨q, eq⟩ := Option.isSome_iff_exists.mp ((F0.D.dom nm).mp hk)
      obtain ⟨v, ev, rv⟩ := F0.D.val nm q eq
      refine ⟨rfl, _, rfl, _, rfl, _, rfl, f, v, rfl, (by rw [← ev]; exact DGet.k (k := Sum.inr nm) ((sA.trans s1) _ _ ef)), by show 2 ≤ sizeLine; decide, fun q1 nq1 => ?_⟩
      refine ⟨ps.map V.ref, hp_new hD nq1, by rw [List.length_map]; exact lt_line (by omega), same_mut (s1.trans (Same.new nq1)) nD, ps ++ [q1], prs ++ [(Sum.inr nm, v)], ?_, by rw [List.length_append, lps]; rfl, ?_, ?_⟩
      · rw [upd_same, List.map_append]; rfl
      · refine Paired.snoc (L2.Paired.mapP pp fun r kv h => hp_mut (hp_new h nq1) (ne_of h hD fun z => by cases z)) (hp_mut upd_same (ne_fresh hD nq1))
      · rw [List.take_add_one, en, epr]
        show _ = pairsOf kvs (fk.reverse.take i ++ [nm])
        unfold pairsOf
        rw [List.map_append, List.map_cons, List.map_nil, ev]
        rfl
    rintro H1 ⟨s1, ps, prs, hD, lps, pp, epr⟩
    rw [List.length_map, List.take_length] at epr
    subst epr
    refine ⟨D, ps, _, rfl, SqL.of hD, L2.Paired.mapP pp (fun _ _ h => SqT.of h), fun bk nb => ?_⟩
    have s2 := (sA.trans s1).trans (Same.new nb (o := .dK (mergeK [] (pairsOf kvs fk.reverse))))
    have hb : upd H1 bk (.dK (mergeK [] (pairsOf kvs fk.reverse))) bk = some (.dK (mergeK [] (pairsOf kvs fk.reverse))) := upd_same
    generalize upd H1 bk (.dK (mergeK [] (pairsOf kvs fk.reverse))) = H2 at s2 hb ⊢
    clear hD pp s1 sA hl2 nl nl2 nD nb
    -- they are equal
    refine ⟨_, rfl, _, rfl, fun x1 dx1 nx1 nd1 ne1 => ?_⟩
    refine mk_fine (F0.rev.same s2) hb nx1 nd1 ne1 fun d1 H3 s3 nn1 V1 => ⟨rfl, ?_⟩
    have S3 := s2.trans s3
    obtain ⟨dy1, u1, ey1, _⟩ := id V1.ins
    refine ⟨h, dx, _, _, rfl, S3 _ _ eh, T.rcV.ty ey1, T.nVV, h, d, _, Tt, _, rfl, Va.same S3, .inl ⟨x1, d1, _, Tt, rfl, ne_fresh (s2 _ _ edh) nn1, V1, _, rfl, ?_⟩⟩
    rw [eqa V1]
    refine ⟨_, rfl, ?_⟩
    refine iteF ?_
    refine ⟨_, rfl, rfl, fun x2 dx2 nx2 nd2 ne2 => ?_⟩
    refine mk_fine (F0.rev.same S3) (s3 _ _ hb) nx2 nd2 ne2 fun d2 H4 s4 nn2 V2 => ⟨rfl, ?_⟩
    have S4 := S3.trans s4
    obtain ⟨dy2, u2, ey2, _⟩ := id V2.ins
    refine ⟨_, rfl, x2, dy2, _, _, rfl, ey2, T.rcV.ty (S4 _ _ eh), T.nVV, x2, d2, _, Tt, _, rfl, V2, .inl ⟨h, d, _, Tt, rfl, (ne_fresh (S3 _ _ edh) nn2).symm, Va.same S4, _, rfl, ?_⟩⟩
    rw [eqb V2]
    refine ⟨_, rfl, ?_⟩
    refine iteF ?_
    refine ⟨_, rfl, _, rfl, fun x3 dx3 nx3 nd3 ne3 => ?_⟩
    refine mk_fine (F0.same S4) (S4 _ _ ef) nx3 nd3 ne3 fun d3 H5 s5 nn3 V3 => ⟨rfl, ?_⟩
    have S5 := S4.trans s5
    obtain ⟨dy3, u3, ey3, _⟩ := id V3.ins
    refine ⟨h, dx, _, _, rfl, S5 _ _ eh, T.rcV.ty ey3, T.nVV, h, d, _, Tt, _, rfl, Va.same S5, .inl ⟨x3, d3, _, Tt, rfl, ne_fresh (S4 _ _ edh) nn3, V3, ?_⟩⟩
    rw [eqa V3]
    refine ⟨_, rfl, ?_⟩
    refine iteF ?_
    clear V1 V2 V3 ey1 ey2 ey3 S3 S4 s2 s3 s4 s5 hb
    -- another one
    refine ⟨_, rfl, f, kvs, rfl, .inl (S5 _ _ ef), fun o no => ?_⟩
    have hoH : H o = none := S5.free no
    have s6 := S5.trans (Same.new no (o := .dK kvs))
    have ho : upd H5 o (.dK kvs) o = some (.dK kvs) := upd_same
    generalize upd H5 o (.dK kvs) = H6 at s6 ho ⊢
    refine ⟨_, rfl, _, rfl, f, kvs, rfl, .inl (s6 _ _ ef), fun l3 nl3 => ?_⟩
    rw [F0.D.strs]
    refine ⟨by show 1 ≤ sizeLine; decide, fun l4 nl4 => ?_⟩
    refine ⟨l3, l4, fk.map V.str, [.str "qq"], rfl, rfl, hp_new upd_same nl4, upd_same, by rw [sizeLine_eq, List.length_map]; show _ + 1 ≤ _; omega, fun l5 nl5 => ?_⟩
    have s7 := ((s6.trans (Same.new nl3 (o := .lst (fk.map V.str)))).trans (Same.new nl4 (o := .lst [.str "qq"]))).trans (Same.new nl5 (o := .lst (fk.map V.str ++ [.str "qq"])))
    have ho7 := hp_new (o := .lst (fk.map V.str ++ [.str "qq"])) (hp_new (o := .lst [.str "qq"]) (hp_new (o := .lst (fk.map V.str)) ho nl3) nl4) nl5
    have hl5 : upd (upd (upd H6 l3 (.lst (fk.map V.str))) l4 (.lst [.str "qq"])) l5 (.lst (fk.map V.str ++ [.str "qq"])) l5 = some (.lst (fk.map V.str ++ [.str "qq"])) := upd_same
    have n5 : H l5 = none := ((s6.trans (Same.new nl3 (o := .lst (fk.map V.str)))).trans (Same.new nl4 (o := .lst [.str "qq"]))).free nl5
    generalize upd (upd (upd H6 l3 (.lst (fk.map V.str))) l4 (.lst [.str "qq"])) l5 (.lst (fk.map V.str ++ [.str "qq"])) = H7 at s7 ho7 hl5 ⊢
    clear ho s6 no nl3 nl4 nl5 S5
    have n5p : l5 ≠ p := (ne_fresh W.pn n5)
    have nop : o ≠ p := (ne_fresh W.pn hoH)
    have W7 := W.keep s7
    refine ⟨p, l5, c, ns, a, g, fk.map V.str ++ [.str "qq"], rfl, W7, hl5, n5p, by rw [List.length_append]; show 0 < _ + 1; omega, by rw [List.length_append, List.length_map]; show _ + 1 < 1000; omega, fun x a1 g1 H8 hp1 k1 hx lA lB => ?_⟩
    obtain ⟨nm, rfl, hnm⟩ : ∃ nm, x = .str nm ∧ (nm ∈ fk ∨ nm = "qq") := by
      rcases List.mem_append.mp hx with h | h
      · obtain ⟨nm, hm, rfl⟩ := List.mem_map.mp h
        exact ⟨nm, rfl, .inl hm⟩
      · rw [List.mem_singleton.mp h]; exact ⟨_, rfl, .inr rfl⟩
    have nmw : nm ∈ wordsL := by
      rcases hnm with h | h
      · exact F0.nm nm h
      · rw [h]; decide +kernel
    have W8 := W7.next lA (by omega) hp1 k1
    have K8 : Keep p H H8 := (Keep.of s7).trans k1
    have ho8 := k1 _ _ ho7 nop
    clear hx hl5 hp1 ho7
    refine ⟨fun σ' H9 => ∃ kvs' fk' T' a' g', σ' = [some (.ref p), some (.ref h), some (.ref f), some (.ref t), some (.ref bk), some (.str nm), some (.ref o), none] ∧ PenAt H9 p c ns a' g' ∧ Keep p H H9 ∧ H9 o = some (.dK kvs') ∧ Fine K T.C_Ratio H9 kvs' fk' T' ∧
      (eqTold (srtS fk) (srtS fk').length Tt T' = false ∧ eqTold (srtS fk') (srtS fk).length T' Tt = false) ∧ a1 ≤ a' ∧ a' ≤ a1 + 1, ?_, ?_⟩
    · have noc : c ≠ o := (ne_fresh W.cs hoH).symm
      have pen' : ∀ {G : Hp} {a' g' : Int} {u : HO}, PenAt G p c ns a' g' → PenAt (upd G o u) p c ns a' g' := fun W => ⟨hp_mut W.pn nop.symm, hp_mut W.cs noc, W.la, W.lb, W.ln⟩
      have lk : kvs.length < 13 := by rw [F0.D.len]; omega
      refine ⟨_, rfl, _, rfl, o, _, rfl, DGet.k (k := Sum.inr nm) ho8, _, rfl, ?_⟩
      rw [F0.D.some?]
      by_cases hm : nm ∈ fk
      · rw [(F0.D.dom nm).mp hm]
        refine iteT ?_
        refine ⟨_, rfl, p, c, ns, a1, g1, 2, rfl, by decide, by decide, W8, fun d9 a2 g2 H9 hp2 k2 z9 y9 l2 u2 => ?_⟩
        have W9 := W8.next l2 (by omega) hp2 k2
        have K9 := K8.trans k2
        have ho9 := k2 _ _ ho8 nop
        obtain ⟨q, eq⟩ := Option.isSome_iff_exists.mp ((F0.D.dom nm).mp hm)
        refine ⟨rfl, _, rfl, ?_⟩
        rw [dec_int]
        refine ite2 (fun _ => ?_) (fun _ => ?_)
        · obtain ⟨v, ev, _⟩ := F0.D.val nm q eq
          refine ⟨_, rfl, o, rfl, .inl ⟨kvs, .inl ho9⟩, _, rfl, kvs, Sum.inr nm, v, ho9, rfl, ev, ?_⟩
          have K10 := keep_mut (o := .dK (dropK kvs (Sum.inr nm))) K9 hoH
          exact ⟨_, _, _, a2, g2, rfl, pen' W9, K10, upd_same, ((GA.pen K10).fine n1 n2).del nm, diff_len (by have := filter_len F0.D.nd hm; omega), by omega, by omega⟩
        · have et9 := K9 _ _ et GA.tp
          obtain ⟨vp, evp, ⟨pr, rfl, hpr⟩, _, sq1, sq2⟩ := (Dt.imp fun _ _ h => PrO.keep h (KeepL.keep K9 List.mem_cons_self)).val nm q eq
          have hg : DGet H9 t (.str nm) (some (.ref pr)) := by rw [← evp]; exact DGet.k (k := Sum.inr nm) et9
          have gq := F0.gv nm q eq
          refine ⟨_, rfl, _, rfl, t, _, rfl, DGet.k (k := Sum.inr nm) et9, _, rfl, ?_⟩
          rw [Dt.some?, eq]
          refine iteT ?_
          refine ⟨_, rfl, _, rfl, t, .ref pr, rfl, hg, _, _, _, _, rfl, rfl, SqT.of hpr, rfl, ?_⟩
          refine ⟨_, _, rfl, rfl, ?_⟩
          refine ⟨_, rfl, _, rfl, t, .ref pr, rfl, hg, _, _, _, _, rfl, rfl, SqT.of hpr, rfl, ?_⟩
          refine fun y dxy ny ndy ney => ⟨y, dxy, .int (q.1 + 1), .int q.2, rfl, upd_same, .inl ⟨q.1 + 1, q.2, rfl, rfl, gq.low, sm_mono (sm_add gq.2.2.1 (sm_1 (by decide))) (by decide), sm_mono gq.2.2.2 (by decide), rfl, ?_⟩⟩
          obtain ⟨G, hF, sG, rG⟩ := newR_heap (C := T.C_Ratio) (t := q.1 + 1) (b := q.2) ny ndy
          rw [← hF]
          obtain ⟨gm, gne⟩ := gv_more (t := q.1) (b := q.2) gq sq1 sq2
          refine ⟨_, rfl, _, rfl, o, _, rfl, DPut.k (k := Sum.inr nm) (sG _ _ ho9) (lt_line (by omega)), ?_⟩
          have K10 := keep_mut (o := .dK (putK kvs (Sum.inr nm) (.ref y))) (K9.trans (Keep.of sG)) hoH
          have rG' : RatAt T.C_Ratio (upd G o (.dK (putK kvs (Sum.inr nm) (.ref y)))) y (lo (q.1 + 1) q.2) (lb (q.1 + 1) q.2) := by
            obtain ⟨dd, e⟩ := rG
            exact ⟨dd, hp_mut e (ne_of e (sG _ _ ho9) fun z => by cases z)⟩
          obtain ⟨fk', F', m', _⟩ := ((GA.pen K10).fine n1 n2).put (x := nm) (v := .ref y) (q := (lo (q.1 + 1) q.2, lb (q.1 + 1) q.2)) nmw ⟨.inl ⟨y, rfl, rG'⟩, gm⟩
          exact ⟨_, fk', _, a2, g2, rfl, pen' (W9.keep sG), K10, upd_same, F', diff_at hm m' (by unfold setT; rw [if_pos rfl, eq]; exact fun z => gne (Option.some.inj z)), by omega, by omega⟩
      · have tn : (Tt nm).isSome = false := by
          cases e : (Tt nm).isSome with
          | false => rfl
          | true => exact absurd ((F0.D.dom nm).mpr e) hm
        rw [tn]
        refine iteF ?_
        refine iteF ?_
        have et8 := K8 _ _ et GA.tp
        refine ⟨_, rfl, _, rfl, t, _, rfl, DGet.k (k := Sum.inr nm) et8, _, rfl, ?_⟩
        rw [Dt.some?, tn]
        refine iteF ?_
        refine ⟨_, rfl, _, rfl, o, _, rfl, DPut.k (k := Sum.inr nm) ho8 (lt_line (by omega)), ?_⟩
        have K10 := keep_mut (o := .dK (putK kvs (Sum.inr nm) (.int 1))) K8 hoH
        obtain ⟨fk', F', _, l'⟩ := ((GA.pen K10).fine n1 n2).put (x := nm) (v := .int 1) (q := (1, 1)) nmw good_one
        exact ⟨_, fk', _, a1, g1, rfl, pen' W8, K10, upd_same, F', diff_len (by have := l' hm; omega), by omega, by omega⟩
    rintro σ' H9 ⟨kvs', fk', T', a9, g9, rfl, W9, K9, ho9, F9, ⟨df1, df2⟩, l9, u9⟩
    clear W8 W7 K8 ho8 k1 s7
    have V9 : ValAt T.C_Values T.C_Ratio H9 h d (srtS fk) Tt none := Va.move (.keep K9 W.pn fun _ _ _ z => by cases z) (fun _ _ f => K9 _ _ f (ne_of f W.pn fun z => by cases z)) fun _ f => K9 _ _ f (ne_of f W.pn fun z => by cases z)
    obtain ⟨dx9, u9', eh9, _⟩ := id V9.ins
    obtain ⟨kvh9, edh9, _⟩ := id V9.dct
    -- that differs
    refine ⟨_, rfl, _, rfl, fun x1 dx1 nx1 nd1 ne1 => ?_⟩
    refine mk_fine F9 ho9 nx1 nd1 ne1 fun d1 G1 s1 nn1 V1 => ⟨rfl, ?_⟩
    obtain ⟨dy1, u1, ey1, _⟩ := id V1.ins
    refine ⟨h, dx9, _, _, rfl, s1 _ _ eh9, T.rcV.ty ey1, T.nVV, h, d, _, Tt, _, rfl, V9.same s1, .inl ⟨x1, d1, _, T', rfl, ne_fresh edh9 nn1, V1, ?_⟩⟩
    rw [df1]
    refine ⟨_, rfl, ?_⟩
    refine iteF ?_
    refine ⟨_, rfl, fun x2 dx2 nx2 nd2 ne2 => ?_⟩
    refine mk_fine (F9.same s1) (s1 _ _ ho9) nx2 nd2 ne2 fun d2 G2 s2 nn2 V2 => ⟨rfl, ?_⟩
    have S2 := s1.trans s2
    obtain ⟨dy2, u2, ey2, _⟩ := id V2.ins
    refine ⟨_, rfl, x2, dy2, _, _, rfl, ey2, T.rcV.ty (S2 _ _ eh9), T.nVV, x2, d2, _, T', _, rfl, V2, .inl ⟨h, d, _, Tt, rfl, (ne_fresh (s1 _ _ edh9) nn2).symm, V9.same S2, _, rfl, ?_⟩⟩
    rw [df2]
    refine ⟨_, rfl, ?_⟩
    refine iteF ?_
    -- nothing of another kind
    have V2' := V9.same S2
    have ef2 := S2 _ _ (K9 _ _ ef GA.fp)
    have et2 := S2 _ _ (K9 _ _ et GA.tp)
    have W2 := W9.keep S2
    have K2 := K9.trans (Keep.of S2)
    clear V1 V2 ey1 ey2 s1 s2 S2 F9 ho9 V9 eh9 edh9
    obtain ⟨dx2, u2', eh2, _⟩ := id V2'.ins
    refine ⟨_, rfl, _, rfl, t, kvt, rfl, .inl et2, fun l6 nl6 => ?_⟩
    have z1 := Same.new nl6 (o := .lst (kvt.map fun kv => kV kv.1))
    have hl6 : upd G2 l6 (.lst (kvt.map fun kv => kV kv.1)) l6 = some (.lst (kvt.map fun kv => kV kv.1)) := upd_same
    refine ⟨_, rfl, ⟨h, dx2, _, rfl, z1 _ _ eh2⟩, h, d, _, Tt, rfl, V2'.same z1, fun z G3 z2 zl => ⟨z, rfl, ?_⟩⟩
    refine ⟨_, rfl, by show 1 ≤ sizeLine; decide, fun l7 nl7 => ?_⟩
    refine fun d7 nd7 => ?_
    refine ⟨by show 7 ≤ sizeLine; decide, fun q7 nq7 => ?_⟩
    have z3 := z1.trans z2
    have z4 := Same.new nl7 (o := .lst [.ref h])
    have z5 := Same.new nd7 (o := .dK [])
    have z6 := Same.new nq7 (o := .tup [.non, .int 0, .ref f, .ref l6, .str z, .ref l7, .ref d7])
    have hq7 : upd (upd (upd G3 l7 (.lst [.ref h])) d7 (.dK [])) q7 (.tup [.non, .int 0, .ref f, .ref l6, .str z, .ref l7, .ref d7]) q7 = some (.tup [.non, .int 0, .ref f, .ref l6, .str z, .ref l7, .ref d7]) := upd_same
    have hd7 := z6 _ _ (upd_same (H := upd G3 l7 (.lst [.ref h])) (a := d7) (o := .dK []))
    have hl7 := z6 _ _ (z5 _ _ (upd_same (H := G3) (a := l7) (o := .lst [.ref h])))
    have hl62 := z6 _ _ (z5 _ _ (z4 _ _ (z2 _ _ hl6)))
    have ef3 := z6 _ _ (z5 _ _ (z4 _ _ (z3 _ _ ef2)))
    have zA := ((z3.trans z4).trans z5).trans z6
    have AV : AllV (NoR K T.C_Values (upd (upd (upd G3 l7 (.lst [.ref h])) d7 (.dK [])) q7 (.tup [.non, .int 0, .ref f, .ref l6, .str z, .ref l7, .ref d7]))) [.non, .int 0, .ref f, .ref l6, .str z, .ref l7, .ref d7] :=
      .cons ⟨_, .base .non, T.othV.non⟩ (.cons ⟨_, .base (.int 0), T.othV.int⟩ (.cons ⟨_, .base (.dK ef3), T.othV.dict⟩ (.cons ⟨_, .base (.lst hl62), T.othV.lst⟩ (.cons ⟨_, .base (.str z), T.othV.str⟩ (.cons ⟨_, .base (.lst hl7), T.othV.lst⟩ (.cons ⟨_, .base (.dK hd7), T.othV.dict⟩ .nil))))))
    generalize upd (upd (upd G3 l7 (.lst [.ref h])) d7 (.dK [])) q7 (.tup [.non, .int 0, .ref f, .ref l6, .str z, .ref l7, .ref d7]) = G4 at hq7 zA AV ⊢
    generalize ([.non, .int 0, .ref f, .ref l6, .str z, .ref l7, .ref d7] : List V) = xs at hq7 AV
    clear z1 z2 z3 z4 z5 z6 hd7 hl7 hl62 ef3 nq7 nd7 nl7 nl6 hl6
    have V4 := V2'.same zA
    refine ⟨q7, rfl, ⟨_, SqT.of hq7⟩, fun D nD => ?_⟩
    refine lc_tup (K := K) (xs := xs) (fun i H' => Same G4 H' ∧ H' D = some (.lst [])) ⟨Same.new nD, upd_same⟩ (fun i H' _ z => SqT.of (z.1 _ _ hq7)) ?_ ?_
    · rintro i y H' hy ⟨s5, hD⟩
      obtain ⟨ty, tyx, ot⟩ := (AV.mem y (List.mem_of_getElem? hy)).same s5
      have V5 := V4.same s5
      obtain ⟨dx5, u5, eh5, _⟩ := id V5.ins
      refine ⟨rfl, _, rfl, _, rfl, h, dx5, _, ty, rfl, eh5, tyx, ot.2, h, d, _, Tt, y, rfl, V5, .inr ⟨ty, tyx, ot.1, _, rfl, ?_⟩⟩
      refine iteF ?_
      exact ⟨s5, hD⟩
    rintro G5 ⟨s5, hD⟩
    refine ⟨by show 0 ≤ sizeLine; decide, fun E6 n6 => ?_⟩
    refine ⟨_, _, nil_dp (hp_new hD n6), nil_dp upd_same, by decide, by decide, ?_⟩
    have sL := (zA.trans s5).trans (Same.new n6 (o := .lst []))
    rw [show PyData.eqv (.list []) (.list []) = true from by decide +kernel]
    exact k a9 g9 _ (sL _ _ W2.pn) (K2.trans (Keep.of sL)) (by omega) (by omega)
end
end RR
set_option maxHeartbeats 4000000
namespace RR
open PySem PySem.Spec PyProof.Rows L2
local macro_rules | `(tactic| walk_at "hp") => `(tactic| first | assumption | exact upd_same | (refine hp_new ?_ (by assumption); walk_at "hp") | (refine hp_mut ?_ (by first | assumption | (apply Ne.symm; assumption)); walk_at "hp") | (refine Same.at (by assumption) ?_; walk_at "hp"))
local macro_rules | `(tactic| walk_at "same") => `(tactic| first | exact fun _ _ z => z | assumption | (refine same_new ?_ (by assumption); walk_at "same") | (refine L2.Same.trans ?_ (by assumption); walk_at "same"))
local macro_rules | `(tactic| walk_at "sq") => `(tactic| exact SqL.of (by walk_at "hp"))
local macro_rules | `(tactic| walk_at "sqT") => `(tactic| exact SqT.of (by walk_at "hp"))

open LamX
section
variable {P : Program} {w : World} {K : PySem.W.Frag} {mg : Str → Option Value} {base : Heap}
theorem g_law (T : TX K mg) (TB : TabB base mg T.cL T.PL) (TBK : TabB base mg T.cK T.PK) : FnG P w K mg base CX0 19 T.f_law (spLawE K (tbs T)) := by
  refine okGC T.F_law sc_law (bd_law T.F_law) (fun vs H Q E h => ?_) (fun cdv hcd A out s H vs Q E hr fr h => ?_)
  · obtain ⟨sa, ns, rfl, hS, hl, tb, k⟩ := h
    rfl
  · obtain ⟨sa, ns, rfl, hS, hl, tb, k⟩ := h
    have hcode : cdv = .ref T.cL := hcd.symm.trans T.codeL
    refine ⟨_, (pss_cons (ps_set (i := 1) sc_law.nd rfl (Or.inl rfl) (pe_callG (g__law_pen T) (hr.mono (by decide)) fr (by rfl) T.m__law_pen T.F__law_pen.kp pass0 (pa_cons (pv 0) pa_nil)))
 (pss_cons (ps_for PassesOwn.never rfl (pi_range1 (by rfl) T.b_range (pa_cons pe_int pa_nil)) (pg_name (i := 2) sc_law.nd rfl (Or.inl rfl))
 (pss_cons (ps_asg (pe_callG (g__law_given T) (hr.mono (by decide)) fr (by rfl) T.m__law_given T.F__law_given.kp pass0 (pa_cons (pv 1) pa_nil)) (pg_tup (by rfl) (pgs_cons (pg_name (i := 3) sc_law.nd rfl (Or.inr rfl)) (pgs_cons (pg_name (i := 4) sc_law.nd rfl (Or.inl rfl)) (pgs_cons (pg_name (i := 5) sc_law.nd rfl (Or.inl rfl)) pgs_nil)))))
 (pss_cons (ps_set (i := 6) sc_law.nd rfl (Or.inl rfl) (pe_callB (call_reprD T.rp.1 T.rp.2 (r_Ratio___repr__ T) (hr.mono (by decide)) fr) (by rfl) T.b_repr (by decide +kernel) (pa_cons (pv 3) pa_nil)))
 (pss_cons (ps_set (i := 7) sc_law.nd rfl (Or.inl rfl) (pe_lamF (k := 12) (T := tbs T) T.F__law_heard (by rfl) T.m__law_heard T.F__law_heard.kp (bd__law_heard T.F__law_heard) sc__law_heard rfl (Or.inl rfl) (fun cdv => heard T _ rfl rfl _ cdv) TB hcode (tb_L T) T.hL (hr.mono (by decide)) fr (lamS_by (sc := defScope s_law) (by decide +kernel)) rfl (fun _ _ _ _ _ => rfl) (fun A0 o0 s0 H0 E0 f0 c0 hr fr => (pe_make T.mk_Values (ok_Values___init__ T) (hr.mono (by decide)) (by rfl) T.m_Values T.bdV.choose_spec.2 T.bdV.choose_spec.1 (passes_call (takes_of rfl rfl rfl rfl) (fun _ _ _ _ h => h)) (pa_cons (pv 3) pa_nil)))))
 (pss_cons (ps_if (pt_cmpR op_ne (pe_callB (call_reprD T.rp.1 T.rp.2 (r_Ratio___repr__ T) (hr.mono (by decide)) fr) (by rfl) T.b_repr (by decide +kernel) (pa_cons (pv 3) pa_nil)) (pv 6) (nomark _)) (pss_one (ps_ret pe_bl)) pss_nil)
 (pss_one (ps_if (pt_cmpR op_notN (pv 5) pe_non (nomark _)) (pss_one (ps_if (PW.pt (pw_or (pt_cmpR (op_neD hr.units) (pv 7) (pv 5) (nomark _)) (pw_or1 (pt_cmpR (op_neD hr.units) (pe_lamF (k := 12) (T := tbs T) T.F__law_heard (by rfl) T.m__law_heard T.F__law_heard.kp (bd__law_heard T.F__law_heard) sc__law_heard rfl (Or.inl rfl) (fun cdv => heard T _ rfl rfl _ cdv) TB hcode (tb_L T) T.hL (hr.mono (by decide)) fr (lamS_by (sc := defScope s_law) (by decide +kernel)) rfl (fun _ _ _ _ _ => rfl) (fun A0 o0 s0 H0 E0 f0 c0 hr fr => (pe_makeK0 T.mk_Values (ok_Values___init__ T) (hr.mono (by decide)) (by rfl) T.m_Values T.kbV (passes_call (takes_of rfl rfl rfl rfl) (fun _ _ _ _ h => h)) (pk_cons (pv 3) pk_nil)))) (pv 5) (nomark _))))) (pss_one (ps_ret pe_bl)) pss_nil)) (pss_cons (ps_set (i := 8) sc_law.nd rfl (Or.inl rfl) (pe_ix ix_list (pv 7) pe_int (fun _ _ => rfl)))
 (pss_cons (ps_if (PW.pt (pw_or (pt_not (pt_val (pe_callB call_isi (by rfl) T.b_isinstance (by decide +kernel) (pa_cons (pv 8) (pa_cons (pe_glob (v := .ref T.C_Values) (by rfl) T.m_Values rfl) pa_nil))))) (pw_or1 (pt_not (pt_val (pe_callG (g__law_keeps T TBK) (hr.mono (by decide)) fr (by rfl) T.m__law_keeps T.F__law_keeps.kp pass0 (pa_cons (pv 8) (pa_cons (pv 4) (pa_cons pe_non pa_nil))))))))) (pss_one (ps_ret pe_bl)) pss_nil)
 (pss_cons (ps_if (pt_not (pt_val (pe_callG (g__law_equal_right T) (hr.mono (by decide)) fr (by rfl) T.m__law_equal_right T.F__law_equal_right.kp pass0 (pa_cons (pv 1) (pa_cons (pv 8) (pa_cons (pv 3) (pa_cons (pv 4) pa_nil))))))) (pss_one (ps_ret pe_bl)) pss_nil)
 (pss_cons (ps_for PassesOwn.never rfl (pi_list (pe_callTy (call_listD rfl) (by rfl) T.b_list (by decide +kernel) (pa_cons (pv 3) pa_nil))) (pg_name (i := 9) sc_law.nd rfl (Or.inl rfl))
 (pss_one (ps_dput (hu_of hr) (pv 3) (pv 9) pe_int rfl)))
 (pss_cons (ps_dput (hu_of hr) (pv 3) pe_str pe_int rfl)
 (pss_one (ps_if (pt_not (pt_val (pe_callG (g__law_keeps T TBK) (hr.mono (by decide)) fr (by rfl) T.m__law_keeps T.F__law_keeps.kp pass0 (pa_cons (pv 8) (pa_cons (pv 4) (pa_cons pe_non pa_nil)))))) (pss_one (ps_ret pe_bl)) pss_nil))))))))))))))
 (pss_one (ps_ret (pe_and (pe_callG (g__law_keeps T TBK) (hr.mono (by decide)) fr (by rfl) T.m__law_keeps T.F__law_keeps.kp pass0 (pa_cons (pe_make0 T.mk_Values (ok_Values___init__ T) (hr.mono (by decide)) (by rfl) T.m_Values T.bdV0.choose_spec.2 T.bdV0.choose_spec.1 passX0) (pa_cons pe_dnewK (pa_cons pe_non pa_nil)))) (pe_and (pe_callG (g__law_keeps T TBK) (hr.mono (by decide)) fr (by rfl) T.m__law_keeps T.F__law_keeps.kp pass0 (pa_cons (pe_make T.mk_Values (ok_Values___init__ T) (hr.mono (by decide)) (by rfl) T.m_Values T.bdV.choose_spec.2 T.bdV.choose_spec.1 passX0 (pa_cons pe_non pa_nil)) (pa_cons pe_dnewK (pa_cons pe_non pa_nil)))) (pe_one (pe_cmpR (op_cmpY (fun _ _ => rfl) T.eqV.1 T.eqV.2 (r_Values___eq__ T) (hr.mono (by decide)) pass0) (pe_make0 T.mk_Values (ok_Values___init__ T) (hr.mono (by decide)) (by rfl) T.m_Values T.bdV0.choose_spec.2 T.bdV0.choose_spec.1 passX0) (pe_make T.mk_Values (ok_Values___init__ T) (hr.mono (by decide)) (by rfl) T.m_Values T.bdV.choose_spec.2 T.bdV.choose_spec.1 passX0 (pa_cons pe_dnewK pa_nil)) (nomark _))))))))), ?_⟩
    refine ⟨_, rfl, sa, ns, rfl, hS, hl, fun p c H0 s0 np nc W => ?_⟩
    have tb0 := Tabs.same tb s0
    refine ⟨8, rfl, by decide, by decide, ?_⟩
    refine for_range (lo := 0) (n := 8) (fun i σ H => ∃ x2 x3 x4 x5 x6 x7 x8 x9 a' g', σ = [some (.ref sa), some (.ref p), x2, x3, x4, x5, x6, x7, x8, x9] ∧ PenAt H p c ns a' g' ∧ a' ≤ 110 * (i : Int) ∧ Tabs (tbs T) H) ⟨none, none, none, none, none, none, none, none, 0, 0, rfl, W, by decide, tb0⟩ ?_ ?_
    · rintro i0 σ H1 hi ⟨x2, x3, x4, x5, x6, x7, x8, x9, a1, g1, rfl, W1, la1, tb1⟩
      refine ⟨_, rfl, p, c, ns, a1, g1, rfl, W1, by omega, fun r f t kvs fk Tt tk T0 due a2 g2 H2 hp2 k2 hr2 GA DU l2 u2 => ?_⟩
      have W2 := W1.next l2 (by omega) hp2 k2
      have tb2 := tabs_keep tb1 W1.pn k2
      clear W1 tb1 k2 hp2
      refine ⟨r, _, rfl, SqT.of hr2, rfl, _, _, rfl, _, _, rfl, _, _, rfl, rfl, ?_⟩
      obtain ⟨ps, RD⟩ := giv_reps GA.D GA.kok GA.kl
      refine ⟨_, rfl, f, kvs, ps, rfl, GA.hf, RD.1, RD.2.1, RD.2.2, ?_⟩
      have kok : ∀ y ∈ fk, KeyOk y := fun y hy => keyOk_of (GA.kok y hy)
      unfold DueV at DU
      cases f1 : (srtS fk).find? oddN with
      | some nm =>
        rw [f1] at DU
        obtain ⟨rd, rfl, hrd⟩ := DU
        have hnm := GA.kok nm (first_mem f1)
        refine ⟨tb2, fun G0 e0 t0 => heardN (x := .str nm) (fun J0 s0 => ?_) fun q7 J7 s7 z7 => ?_⟩
        · have GJ := (GA.ext e0).ext (ExtN.of s0)
          exact ⟨_, rfl, fun x1 dx1 nx1 nd1 ne1 => mk_name (GJ.D.imp fun _ _ h => h.1) kok GA.kl GJ.hf nx1 nd1 ne1 f1⟩
        have E2 : ExtN H2 J7 := e0.trans (ExtN.of s7)
        have tb3 := Tabs.same t0 s7
        have G2A := GA.ext E2
        have W3 : PenAt J7 p c ns a2 g2 := ⟨E2 _ _ W2.pn (fun _ z => by cases z), E2 _ _ W2.cs (fun _ z => by cases z), W2.la, W2.lb, W2.ln⟩
        have RD2 := RD.ext (K := K) E2
        have hrd2 := E2 _ _ hrd (fun _ z => by cases z)
        refine ⟨_, rfl, f, kvs, ps, rfl, G2A.hf, RD2.1, RD2.2.1, RD2.2.2, _, rfl, rfl, _, rfl, ?_⟩
        rw [decide_eq_true rfl]
        refine iteF ?_
        refine ⟨_, rfl, rfl, _, rfl, ?_⟩
        rw [decide_eq_false (fun z => by cases z)]
        refine iteT ?_
        refine ⟨_, rfl, _, rfl, _, _, dp_pair z7, dp_pair hrd2, shaped_nm nm hnm, shaped_nm nm hnm, _, rfl, ?_⟩
        rw [eqv_nm nm hnm]
        refine iteF ?_
        refine ⟨tb3, fun G8 e8 t8 => heardN (x := .str nm) (fun J0 s0 => ?_) fun q9 J9 s9 z9 => ?_⟩
        · have GJ := (G2A.ext e8).ext (ExtN.of s0)
          exact ⟨_, rfl, rfl, fun x1 dx1 nx1 nd1 ne1 => mk_name (GJ.D.imp fun _ _ h => h.1) kok GA.kl GJ.hf nx1 nd1 ne1 f1⟩
        have E9 : ExtN J7 J9 := e8.trans (ExtN.of s9)
        refine ⟨_, rfl, _, _, dp_pair z9, dp_pair (E9 _ _ hrd2 (fun _ z => by cases z)), shaped_nm nm hnm, shaped_nm nm hnm, _, rfl, ?_⟩
        rw [eqv_nm nm hnm]
        refine iteF ?_
        exact ⟨_, _, _, _, _, _, _, _, a2, g2, rfl, ⟨E9 _ _ W3.pn (fun _ z => by cases z), E9 _ _ W3.cs (fun _ z => by cases z), W3.la, W3.lb, W3.ln⟩, by omega, Tabs.same t8 s9⟩
      | none =>
        rw [f1] at DU
        dsimp only at DU
        cases f2 : (srtS fk).find? (badAt Tt) with
        | some nm =>
          rw [f2] at DU
          obtain ⟨rd, rfl, hrd⟩ := DU
          have hnm := GA.kok nm (first_mem f2)
          refine ⟨tb2, fun G0 e0 t0 => heardB (x := .str nm) (fun J0 s0 => ?_) fun q7 J7 s7 z7 => ?_⟩
          · have GJ := (GA.ext e0).ext (ExtN.of s0)
            exact ⟨_, rfl, fun x1 dx1 nx1 nd1 ne1 => mk_value (GJ.D.imp fun _ _ h => h.1) kok GA.kl GJ.hf nx1 nd1 ne1 f1 f2⟩
          have E2 : ExtN H2 J7 := e0.trans (ExtN.of s7)
          have tb3 := Tabs.same t0 s7
          have G2A := GA.ext E2
          have W3 : PenAt J7 p c ns a2 g2 := ⟨E2 _ _ W2.pn (fun _ z => by cases z), E2 _ _ W2.cs (fun _ z => by cases z), W2.la, W2.lb, W2.ln⟩
          have RD2 := RD.ext (K := K) E2
          have hrd2 := E2 _ _ hrd (fun _ z => by cases z)
          refine ⟨_, rfl, f, kvs, ps, rfl, G2A.hf, RD2.1, RD2.2.1, RD2.2.2, _, rfl, rfl, _, rfl, ?_⟩
          rw [decide_eq_true rfl]
          refine iteF ?_
          refine ⟨_, rfl, rfl, _, rfl, ?_⟩
          rw [decide_eq_false (fun z => by cases z)]
          refine iteT ?_
          refine ⟨_, rfl, _, rfl, _, _, dp_pair z7, dp_pair hrd2, shaped_vl nm hnm, shaped_vl nm hnm, _, rfl, ?_⟩
          rw [eqv_vl nm hnm]
          refine iteF ?_
          refine ⟨tb3, fun G8 e8 t8 => heardB (x := .str nm) (fun J0 s0 => ?_) fun q9 J9 s9 z9 => ?_⟩
          · have GJ := (G2A.ext e8).ext (ExtN.of s0)
            exact ⟨_, rfl, rfl, fun x1 dx1 nx1 nd1 ne1 => mk_value (GJ.D.imp fun _ _ h => h.1) kok GA.kl GJ.hf nx1 nd1 ne1 f1 f2⟩
          have E9 : ExtN J7 J9 := e8.trans (ExtN.of s9)
          refine ⟨_, rfl, _, _, dp_pair z9, dp_pair (E9 _ _ hrd2 (fun _ z => by cases z)), shaped_vl nm hnm, shaped_vl nm hnm, _, rfl, ?_⟩
          rw [eqv_vl nm hnm]
          refine iteF ?_
          exact ⟨_, _, _, _, _, _, _, _, a2, g2, rfl, ⟨E9 _ _ W3.pn (fun _ z => by cases z), E9 _ _ W3.cs (fun _ z => by cases z), W3.la, W3.lb, W3.ln⟩, by omega, Tabs.same t8 s9⟩
        | none =>
          rw [f2] at DU
          obtain ⟨rfl, rfl⟩ := DU
          refine ⟨tb2, fun G0 e0 t0 => heardV (fun J0 s0 => ?_)⟩
          have GJ := (GA.ext e0).ext (ExtN.of s0)
          refine ⟨_, rfl, fun x1 dx1 nx1 nd1 ne1 => ?_⟩
          refine mk_fine (GJ.fine f1 f2) GJ.hf nx1 nd1 ne1 fun d G1 s1 nn V1 => ⟨rfl, fun q G2 s2 hq => ?_⟩
          have E2 : ExtN H2 G2 := e0.trans (ExtN.of ((s0.trans s1).trans s2))
          have tb3 := Tabs.same t0 ((s0.trans s1).trans s2)
          have G2A := GA.ext E2
          have V2 := V1.same s2
          have ndf : f ≠ d := (ne_fresh GJ.hf nn).symm
          have ndt : t ≠ d := by
            obtain ⟨kvt, et, _⟩ := GJ.ht
            exact (ne_fresh et nn).symm
          have W3 : PenAt G2 p c ns a2 g2 := ⟨E2 _ _ W2.pn (fun _ z => by cases z), E2 _ _ W2.cs (fun _ z => by cases z), W2.la, W2.lb, W2.ln⟩
          have RD2 := RD.ext (K := K) E2
          clear V1 s2 s1 nn GJ s0 t0 e0 W2 tb2 E2 GA RD hr2
          refine ⟨_, rfl, f, kvs, ps, rfl, G2A.hf, RD2.1, RD2.2.1, RD2.2.2, _, rfl, rfl, _, rfl, ?_⟩
          rw [decide_eq_true rfl]
          refine iteF ?_
          refine ⟨_, rfl, rfl, _, rfl, ?_⟩
          rw [decide_eq_true rfl]
          refine iteF ?_
          refine ⟨_, rfl, _, _, _, _, rfl, rfl, SqL.of hq, rfl, ?_⟩
          obtain ⟨dx, uu, eh, hu⟩ := id V2.ins
          refine ⟨_, rfl, _, _, _, _, true, rfl, .own _, T.rcV.ty eh, kit_self, _, rfl, ?_⟩
          refine iteF ?_
          refine ⟨_, rfl, _, rfl, x1, d, t, .non, _, tk, Tt, none, rfl, V2, G2A.dctAt, rfl, tb3, fun G3 e3 tb4 => ?_⟩
          refine ⟨_, rfl, ?_⟩
          refine iteF ?_
          have G3A := G2A.ext e3
          have V3 := V2.ext e3
          have W4 : PenAt G3 p c ns a2 g2 := ⟨e3 _ _ W3.pn (fun _ z => by cases z), e3 _ _ W3.cs (fun _ z => by cases z), W3.la, W3.lb, W3.ln⟩
          refine ⟨_, rfl, _, rfl, _, rfl, _, rfl, p, c, ns, a2, g2, x1, d, f, t, kvs, fk, Tt, tk, rfl, W4, by omega, V3, G3A, f1, f2, fun a5 g5 G5 hp5 k5 l5 u5 => ?_⟩
          refine ⟨_, rfl, ?_⟩
          refine iteF ?_
          have W5 := W4.next l5 (by omega) hp5 k5
          have tb5 := tabs_keep tb4 W4.pn k5
          have G5A := G3A.pen k5
          have V5 : ValAt T.C_Values T.C_Ratio G5 x1 d (srtS fk) Tt none := V3.move (.keep k5 W4.pn fun _ _ _ z => by cases z) (fun _ _ f => k5 _ _ f (ne_of f W4.pn fun z => by cases z)) fun _ f => k5 _ _ f (ne_of f W4.pn fun z => by cases z)
          clear G3A V3 W4 tb4 e3 W3 RD2 V2 G2A tb3 hq eh k5 hp5
          -- what is handed in is changed
          refine ⟨_, rfl, f, kvs, rfl, .inl G5A.hf, fun l nl => ?_⟩
          rw [G5A.D.strs]
          have s6 := Same.new nl (o := .lst (fk.map V.str))
          have hl6 : upd G5 l (.lst (fk.map V.str)) l = some (.lst (fk.map V.str)) := upd_same
          have nlf : l ≠ f := ne_fresh G5A.hf nl
          generalize upd G5 l (.lst (fk.map V.str)) = G6 at s6 hl6 ⊢
          have ef6 := s6 _ _ G5A.hf
          have lk6 : kvs.length ≤ 12 := by rw [G5A.D.len]; exact G5A.kl
          refine ⟨l, rfl, ⟨_, SqL.of hl6⟩, ?_⟩
          refine for_list (xs := fk.map V.str) (fun i σ H' => ∃ e9 kv', σ = [some (.ref sa), some (.ref p), some (.int (0 + (i0 : Int))), some (.ref f), some (.ref t), some .non, some (.str (dictText ps)), some (.ref q), some (.ref x1), e9] ∧ H' f = some (.dK kv') ∧ kv'.length ≤ 12 + i ∧ KeepL [f] G6 H') ⟨_, kvs, rfl, ef6, by omega, KeepL.refl _ _⟩ (fun i σ H' _ z => by obtain ⟨_, _, _, _, _, kl⟩ := z; exact SqL.of (kl _ _ hl6 (by simp [nlf]))) ?_ ?_
          · rintro j y σ H' hy ⟨e9, kv', rfl, ef7, l7, kl7⟩
            obtain ⟨nm, en, rfl, hm⟩ := at_strs hy
            have hj : j < fk.length := (List.getElem?_eq_some_iff.mp en).1
            have hk := G5A.kl
            refine ⟨_, rfl, _, rfl, f, _, rfl, DPut.k (k := Sum.inr nm) ef7 (lt_line (by omega)), ?_⟩
            exact ⟨_, _, rfl, upd_same, by have := putK_le kv' (Sum.inr nm) (.int 99); omega, kl7.trans (.mut (by simp))⟩
          rintro σ H' ⟨e9, kv', rfl, ef7, l7, kl7⟩
          rw [List.length_map] at l7
          have hk := G5A.kl
          refine ⟨_, rfl, f, _, rfl, DPut.k (k := Sum.inr "qqqqqqqq") ef7 (lt_line (by omega)), ?_⟩
          have kk : Keep f G6 (upd H' f (.dK (putK kv' (Sum.inr "qqqqqqqq") (.int 1)))) := keepL_one (kl7.trans (.mut (by simp)))
          generalize upd H' f (.dK (putK kv' (Sum.inr "qqqqqqqq") (.int 1))) = H9 at kk ⊢
          have V6 := V5.same s6
          have V9 : ValAt T.C_Values T.C_Ratio H9 x1 d (srtS fk) Tt none := V6.move (.keep kk ef6 fun _ _ _ z => by cases z) (fun _ _ e => kk _ _ e (ne_of e ef6 fun z => by cases z)) fun _ e => kk _ _ e ndf.symm
          have D9 : DctAt H9 t tk Tt := (G5A.ext (ExtN.of s6)).dctAt.move (.keep kk ef6 fun _ z => by cases z) fun _ e => kk _ _ e G5A.ft.symm
          have tb9 : Tabs (tbs T) H9 := tabs_keepG (Tabs.same tb5 s6) ef6 (by intro ps z; cases z) (by intro c q z; unfold CodeO at z; cases z) kk
          have W9 : PenAt H9 p c ns a5 g5 := ⟨kk _ _ (s6 _ _ W5.pn) G5A.fp.symm, kk _ _ (s6 _ _ W5.cs) (ne_of (s6 _ _ W5.cs) ef6 fun z => by cases z), W5.la, W5.lb, W5.ln⟩
          refine ⟨_, rfl, _, rfl, x1, d, t, .non, _, tk, Tt, none, rfl, V9, D9, rfl, tb9, fun GA eA tbA => ?_⟩
          refine ⟨_, rfl, ?_⟩
          refine iteF ?_
          exact ⟨_, _, _, _, _, _, _, _, a5, g5, rfl, ⟨eA _ _ W9.pn (fun _ z => by cases z), eA _ _ W9.cs (fun _ z => by cases z), W9.la, W9.lb, W9.ln⟩, by omega, tbA⟩
    rintro σ H1 ⟨x2, x3, x4, x5, x6, x7, x8, x9, a1, g1, rfl, W1, la1, tb1⟩
    -- none at all
    refine fun x1 dx1 nx1 nd1 ne1 => ?_
    refine mk_none nx1 nd1 ne1 fun d1 G1 s1 nn1 V1 => ⟨rfl, ?_⟩
    refine fun q1 nq1 => ?_
    refine ⟨x1, d1, q1, .non, _, [], _, none, rfl, V1.same (Same.new nq1), ⟨[], upd_same, Dct.nil⟩, rfl, Tabs.same (Tabs.same tb1 s1) (Same.new nq1), fun G2 e2 tb2 => ?_⟩
    refine ⟨_, rfl, ?_⟩
    refine iteT ?_
    refine fun x2 dx2 nx2 nd2 ne2 => ?_
    refine mk_none nx2 nd2 ne2 fun d2 G3 s3 nn2 V2 => ⟨rfl, ?_⟩
    refine fun q2 nq2 => ?_
    refine ⟨x2, d2, q2, .non, _, [], _, none, rfl, V2.same (Same.new nq2), ⟨[], upd_same, Dct.nil⟩, rfl, Tabs.same (Tabs.same tb2 s3) (Same.new nq2), fun G4 e4 tb4 => ?_⟩
    refine ⟨_, rfl, ?_⟩
    refine iteT ?_
    refine fun x3 dx3 nx3 nd3 ne3 => ?_
    refine mk_none nx3 nd3 ne3 fun d3 G5 s5 nn3 V3 => ⟨rfl, ?_⟩
    refine fun q3 nq3 => ?_
    refine fun x4 dx4 nx4 nd4 ne4 => ?_
    refine mk_fine (kvs := []) (fk := []) (T := fun _ => none) ⟨Dct.nil, (fun _ h => nomatch h), (fun _ _ h => nomatch h)⟩ upd_same nx4 nd4 ne4 fun d4 G6 s6 nn4 V4 => ⟨rfl, ?_⟩
    have sZ := (Same.new nq3 (o := .dK [])).trans s6
    have V3' := V3.same sZ
    obtain ⟨dy3, u3, ey3, _⟩ := id V3'.ins
    obtain ⟨dy4, u4, ey4, _⟩ := id V4.ins
    obtain ⟨kv3, ed3, _⟩ := id V3.dct
    refine ⟨x3, dy3, _, _, rfl, ey3, T.rcV.ty ey4, T.nVV, x3, d3, _, _, _, rfl, V3', .inl ⟨x4, d4, _, _, rfl, ne_fresh (hp_new ed3 nq3) nn4, V4, ?_⟩⟩
    rw [eq_self V3' V4]
    exact k _
end
end RR
set_option maxHeartbeats 4000000
namespace RR
open PySem PySem.Spec PyProof.Rows L2
local macro_rules | `(tactic| walk_at "hp") => `(tactic| first | assumption | exact upd_same | (refine hp_new ?_ (by assumption); walk_at "hp") | (refine hp_mut ?_ (by first | assumption | (apply Ne.symm; assumption)); walk_at "hp") | (refine Same.at (by assumption) ?_; walk_at "hp"))
local macro_rules | `(tactic| walk_at "same") => `(tactic| first | exact fun _ _ z => z | assumption | (refine same_new ?_ (by assumption); walk_at "same") | (refine L2.Same.trans ?_ (by assumption); walk_at "same"))
local macro_rules | `(tactic| walk_at "sq") => `(tactic| exact SqL.of (by walk_at "hp"))
local macro_rules | `(tactic| walk_at "sqT") => `(tactic| exact SqT.of (by walk_at "hp"))

open LamX
theorem bdOne {K : PySem.W.Frag} {f : Addr} {fd : FuncData} (F : FunD K "__init__" "Ratio.__init__" (defArgs s_Ratio___init__) (defBody s_Ratio___init__) (defScope s_Ratio___init__) [.int 1] [] f fd) : ∃ ds, Vals [V.int 1] ds ∧ Binds K fd ["self", "top", "bottom"] ds :=
  F.binds1 (ps := ["self", "top", "bottom"]) 2 0 (by decide) rfl fun T kV doc pm an cdv ct us its h1 h2 => match us, its, h1, h2 with | [_, _], [_], _, _ => ⟨_, rfl, rfl⟩
theorem bdTwo {K : PySem.W.Frag} {f : Addr} {fd : FuncData} (F : FunD K "__init__" "Ratio.__init__" (defArgs s_Ratio___init__) (defBody s_Ratio___init__) (defScope s_Ratio___init__) [.int 1] [] f fd) : ∃ ds, Vals [] ds ∧ Binds K fd ["self", "top", "bottom"] ds :=
  F.binds1 (ps := ["self", "top", "bottom"]) 3 1 (by decide) rfl fun T kV doc pm an cdv ct us its h1 h2 => match us, its, h1, h2 with | [_, _, _], [_], _, _ => ⟨_, rfl, rfl⟩
theorem bdVals {K : PySem.W.Frag} {f : Addr} {fd : FuncData} (F : FunD K "__init__" "Values.__init__" (defArgs s_Values___init__) (defBody s_Values___init__) (defScope s_Values___init__) [.non] [] f fd) : ∃ ds, Vals [] ds ∧ Binds K fd ["self", "numbers"] ds :=
  F.binds1 (ps := ["self", "numbers"]) 2 1 (by decide) rfl fun T kV doc pm an cdv ct us its h1 h2 => match us, its, h1, h2 with | [_, _], [_], _, _ => ⟨_, rfl, rfl⟩
theorem bdVals0 {K : PySem.W.Frag} {f : Addr} {fd : FuncData} (F : FunD K "__init__" "Values.__init__" (defArgs s_Values___init__) (defBody s_Values___init__) (defScope s_Values___init__) [.non] [] f fd) : ∃ ds, Vals [V.non] ds ∧ Binds K fd ["self", "numbers"] ds :=
  F.binds1 (ps := ["self", "numbers"]) 1 0 (by decide) rfl fun T kV doc pm an cdv ct us its h1 h2 => match us, its, h1, h2 with | [_], [_], _, _ => ⟨_, rfl, rfl⟩
theorem kbVals {K : PySem.W.Frag} {f : Addr} {fd : FuncData} (F : FunD K "__init__" "Values.__init__" (defArgs s_Values___init__) (defBody s_Values___init__) (defScope s_Values___init__) [.non] [] f fd) : KBn K fd ["self", "numbers"] (0 + 1) ["numbers"] (fun us ws => us ++ ws) (fun vs zs => vs ++ zs) := by
  obtain ⟨its, h⟩ := F.kbindsD (ps := ["self", "numbers"]) 1 ["numbers"] (fun us _ ws => us ++ ws) (by decide) (fun hv _ hz => hv.append hz) (fun T kV doc pm an cdv ct us its ws h1 h2 h3 => match us, its, ws, h1, h2, h3 with
    | [_], [_], [_], _, _, _ => ⟨_, rfl, rfl⟩)
  exact h
theorem tabIn_of {K : PySem.W.Frag} {x : Str} {f c P : Addr} {oc oC : Value} {od dC : Option Addr} {fd : FuncData} {sl sC : Array (Option Value)} {vs : Array Value} (h1 : PySem.W.nsIn K mainGlobals x = some (some (.ref f))) (h2 : K.lookup f = some ⟨oc, od, .func fd, sl⟩) (h3 : fd.code = .ref c)
    (h4 : K.lookup c = some ⟨oC, dC, .fields vs, sC⟩) (h5 : vs[11]? = some (.ref P)) : PySem.W.tabIn K x = some (c, P) := by
  unfold PySem.W.tabIn
  simp only [h1, h2, h3, h4, h5]

theorem build {K : PySem.W.Frag} {h : Heap} {mg : Str → Option Value} {fa : Addr} (X : K.In h) (G : h.Ns mainGlobals mg) (hfa : mg "law" = some (.ref fa))
    {C_Ratio : Addr}
    {C_Values : Addr}
    {C_BadRatio : Addr}
    {C_BadName : Addr}
    {C_BadValue : Addr}
    {C_NoValue : Addr}
    {C_NoRatio : Addr}
    {C_WebError : Addr}
    {f_Ratio___init__ : Addr} {oc_Ratio___init__ kV_Ratio___init__ doc_Ratio___init__ pm_Ratio___init__ cd_Ratio___init__ ct_Ratio___init__ oD : Value} {od_Ratio___init__ an_Ratio___init__ dD : Option Addr} {sl_Ratio___init__ sD : Array (Option Value)} {tD : Addr} {tkD : Tok} {nD : Nat}
    {p_is_endless : Addr} {rest_is_endless : List Value} {mc_Ratio : Value} {p_of : Addr} {rs_of : List Value} {p_endless : Addr} {rs_endless : List Value}
    {nmBadRatio qBadRatio : Str} {NBadRatio fI_BadRatio : Addr} {bsBadRatio bmBadRatio : List Value} {snBadRatio : List Str} {subBadRatio : List Value} {abBadRatio : Bool} {colBadRatio : Option Bool} {ddBadRatio : Option Addr} {a0BadRatio a1BadRatio a2BadRatio a3BadRatio a5BadRatio : Option Value} {ocBadRatio pmBadRatio docBadRatio cdBadRatio ctBadRatio : Value} {odBadRatio anBadRatio : Option Addr} {slBadRatio : Array (Option Value)} {p1BadRatio p2BadRatio q1BadRatio q2BadRatio q3BadRatio q4BadRatio : Pos}
    
    {nmBadName qBadName : Str} {NBadName fI_BadName : Addr} {bsBadName bmBadName : List Value} {snBadName : List Str} {subBadName : List Value} {abBadName : Bool} {colBadName : Option Bool} {ddBadName : Option Addr} {a0BadName a1BadName a2BadName a3BadName a5BadName : Option Value} {ocBadName pmBadName docBadName cdBadName ctBadName : Value} {odBadName anBadName : Option Addr} {slBadName : Array (Option Value)} {p1BadName p2BadName q1BadName q2BadName q3BadName q4BadName : Pos} {nmBadValue qBadValue : Str} {NBadValue fI_BadValue : Addr} {bsBadValue bmBadValue : List Value} {snBadValue : List Str} {subBadValue : List Value} {abBadValue : Bool} {colBadValue : Option Bool} {ddBadValue : Option Addr} {a0BadValue a1BadValue a2BadValue a3BadValue a5BadValue : Option Value} {ocBadValue pmBadValue docBadValue cdBadValue ctBadValue : Value} {odBadValue anBadValue : Option Addr} {slBadValue : Array (Option Value)} {p1BadValue p2BadValue q1BadValue q2BadValue q3BadValue q4BadValue : Pos} {nmNoValue qNoValue : Str} {NNoValue fI_NoValue : Addr} {bsNoValue bmNoValue : List Value} {snNoValue : List Str} {subNoValue : List Value} {abNoValue : Bool} {colNoValue : Option Bool} {ddNoValue : Option Addr} {a0NoValue a1NoValue a2NoValue a3NoValue a5NoValue : Option Value} {ocNoValue pmNoValue docNoValue cdNoValue ctNoValue : Value} {odNoValue anNoValue : Option Addr} {slNoValue : Array (Option Value)} {p1NoValue p2NoValue q1NoValue q2NoValue q3NoValue q4NoValue : Pos}
    {f_Values___init__ tV : Addr} {ocV kV_V docV pmV cdV ctV oDV : Value} {odV anV dDV : Option Addr} {slV sDV : Array (Option Value)} {nDV : Nat} {p_names p_rest a_RESERVED : Addr} {rest_names rest_rest : List Value} {LONG_t u1 u2 u3 : Tok} {r1 r2 r3 : Str} {dRS : Option Addr} {nRS : Nat} {sRS : Array (Option Value)} {cK PK : Addr} {toK : Value} {tdK : Option Addr} {tvK : Array Value} {tsK : Array (Option Value)} {cL PL : Addr} {toL : Value} {tdL : Option Addr} {tvL : Array Value} {tsL : Array (Option Value)}
    {f_Ratio_of : Addr} {oc_Ratio_of kV_Ratio_of doc_Ratio_of pm_Ratio_of cd_Ratio_of ct_Ratio_of : Value} {od_Ratio_of an_Ratio_of : Option Addr} {sl_Ratio_of : Array (Option Value)}
    {f_Ratio_endless : Addr} {oc_Ratio_endless kV_Ratio_endless doc_Ratio_endless pm_Ratio_endless cd_Ratio_endless ct_Ratio_endless : Value} {od_Ratio_endless an_Ratio_endless : Option Addr} {sl_Ratio_endless : Array (Option Value)}
    {f_Ratio_is_endless : Addr} {oc_Ratio_is_endless kV_Ratio_is_endless doc_Ratio_is_endless pm_Ratio_is_endless cd_Ratio_is_endless ct_Ratio_is_endless : Value} {od_Ratio_is_endless an_Ratio_is_endless : Option Addr} {sl_Ratio_is_endless : Array (Option Value)}
    {f_Ratio___lt__ : Addr} {oc_Ratio___lt__ kV_Ratio___lt__ doc_Ratio___lt__ pm_Ratio___lt__ cd_Ratio___lt__ ct_Ratio___lt__ : Value} {od_Ratio___lt__ an_Ratio___lt__ : Option Addr} {sl_Ratio___lt__ : Array (Option Value)}
    {f_Ratio___eq__ : Addr} {oc_Ratio___eq__ kV_Ratio___eq__ doc_Ratio___eq__ pm_Ratio___eq__ cd_Ratio___eq__ ct_Ratio___eq__ : Value} {od_Ratio___eq__ an_Ratio___eq__ : Option Addr} {sl_Ratio___eq__ : Array (Option Value)}
    {f_Ratio___str__ : Addr} {oc_Ratio___str__ kV_Ratio___str__ doc_Ratio___str__ pm_Ratio___str__ cd_Ratio___str__ ct_Ratio___str__ : Value} {od_Ratio___str__ an_Ratio___str__ : Option Addr} {sl_Ratio___str__ : Array (Option Value)}
    {f_Ratio___repr__ : Addr} {oc_Ratio___repr__ kV_Ratio___repr__ doc_Ratio___repr__ pm_Ratio___repr__ cd_Ratio___repr__ ct_Ratio___repr__ : Value} {od_Ratio___repr__ an_Ratio___repr__ : Option Addr} {sl_Ratio___repr__ : Array (Option Value)}
    {f_Values_rest_get : Addr} {oc_Values_rest_get kV_Values_rest_get doc_Values_rest_get pm_Values_rest_get cd_Values_rest_get ct_Values_rest_get : Value} {od_Values_rest_get an_Values_rest_get : Option Addr} {sl_Values_rest_get : Array (Option Value)}
    {f_Values_names : Addr} {oc_Values_names kV_Values_names doc_Values_names pm_Values_names cd_Values_names ct_Values_names : Value} {od_Values_names an_Values_names : Option Addr} {sl_Values_names : Array (Option Value)}
    {f_Values___getitem__ : Addr} {oc_Values___getitem__ kV_Values___getitem__ doc_Values___getitem__ pm_Values___getitem__ cd_Values___getitem__ ct_Values___getitem__ : Value} {od_Values___getitem__ an_Values___getitem__ : Option Addr} {sl_Values___getitem__ : Array (Option Value)}
    {f_Values___contains__ : Addr} {oc_Values___contains__ kV_Values___contains__ doc_Values___contains__ pm_Values___contains__ cd_Values___contains__ ct_Values___contains__ : Value} {od_Values___contains__ an_Values___contains__ : Option Addr} {sl_Values___contains__ : Array (Option Value)}
    {f_Values___len__ : Addr} {oc_Values___len__ kV_Values___len__ doc_Values___len__ pm_Values___len__ cd_Values___len__ ct_Values___len__ : Value} {od_Values___len__ an_Values___len__ : Option Addr} {sl_Values___len__ : Array (Option Value)}
    {f_Values___eq__ : Addr} {oc_Values___eq__ kV_Values___eq__ doc_Values___eq__ pm_Values___eq__ cd_Values___eq__ ct_Values___eq__ : Value} {od_Values___eq__ an_Values___eq__ : Option Addr} {sl_Values___eq__ : Array (Option Value)}
    {f_Values___str__ : Addr} {oc_Values___str__ kV_Values___str__ doc_Values___str__ pm_Values___str__ cd_Values___str__ ct_Values___str__ : Value} {od_Values___str__ an_Values___str__ : Option Addr} {sl_Values___str__ : Array (Option Value)}
    {f_is_int : Addr} {oc_is_int kV_is_int doc_is_int pm_is_int cd_is_int ct_is_int : Value} {od_is_int an_is_int : Option Addr} {sl_is_int : Array (Option Value)}
    {f_is_name : Addr} {oc_is_name kV_is_name doc_is_name pm_is_name cd_is_name ct_is_name : Value} {od_is_name an_is_name : Option Addr} {sl_is_name : Array (Option Value)}
    {f_value_of : Addr} {oc_value_of kV_value_of doc_value_of pm_value_of cd_value_of ct_value_of : Value} {od_value_of an_value_of : Option Addr} {sl_value_of : Array (Option Value)}
    {f__law_pen : Addr} {oc__law_pen kV__law_pen doc__law_pen pm__law_pen cd__law_pen ct__law_pen : Value} {od__law_pen an__law_pen : Option Addr} {sl__law_pen : Array (Option Value)}
    {f__law_draw : Addr} {oc__law_draw kV__law_draw doc__law_draw pm__law_draw cd__law_draw ct__law_draw : Value} {od__law_draw an__law_draw : Option Addr} {sl__law_draw : Array (Option Value)}
    {f__law_pick : Addr} {oc__law_pick kV__law_pick doc__law_pick pm__law_pick cd__law_pick ct__law_pick : Value} {od__law_pick an__law_pick : Option Addr} {sl__law_pick : Array (Option Value)}
    {f__law_low : Addr} {oc__law_low kV__law_low doc__law_low pm__law_low cd__law_low ct__law_low : Value} {od__law_low an__law_low : Option Addr} {sl__law_low : Array (Option Value)}
    {f__law_is : Addr} {oc__law_is kV__law_is doc__law_is pm__law_is cd__law_is ct__law_is : Value} {od__law_is an__law_is : Option Addr} {sl__law_is : Array (Option Value)}
    {f__law_fraction : Addr} {oc__law_fraction kV__law_fraction doc__law_fraction pm__law_fraction cd__law_fraction ct__law_fraction : Value} {od__law_fraction an__law_fraction : Option Addr} {sl__law_fraction : Array (Option Value)}
    {f__law_number : Addr} {oc__law_number kV__law_number doc__law_number pm__law_number cd__law_number ct__law_number : Value} {od__law_number an__law_number : Option Addr} {sl__law_number : Array (Option Value)}
    {f__law_odd_number : Addr} {oc__law_odd_number kV__law_odd_number doc__law_odd_number pm__law_odd_number cd__law_odd_number ct__law_odd_number : Value} {od__law_odd_number an__law_odd_number : Option Addr} {sl__law_odd_number : Array (Option Value)}
    {f__law_words : Addr} {oc__law_words kV__law_words doc__law_words pm__law_words cd__law_words ct__law_words : Value} {od__law_words an__law_words : Option Addr} {sl__law_words : Array (Option Value)}
    {f__law_heard : Addr} {oc__law_heard kV__law_heard doc__law_heard pm__law_heard cd__law_heard ct__law_heard : Value} {od__law_heard an__law_heard : Option Addr} {sl__law_heard : Array (Option Value)}
    {f__law_keeps : Addr} {oc__law_keeps kV__law_keeps doc__law_keeps pm__law_keeps cd__law_keeps ct__law_keeps : Value} {od__law_keeps an__law_keeps : Option Addr} {sl__law_keeps : Array (Option Value)}
    {f__law_given : Addr} {oc__law_given kV__law_given doc__law_given pm__law_given cd__law_given ct__law_given : Value} {od__law_given an__law_given : Option Addr} {sl__law_given : Array (Option Value)}
    {f__law_equal_right : Addr} {oc__law_equal_right kV__law_equal_right doc__law_equal_right pm__law_equal_right cd__law_equal_right ct__law_equal_right : Value} {od__law_equal_right an__law_equal_right : Option Addr} {sl__law_equal_right : Array (Option Value)}
    {f_law : Addr} {oc_law kV_law doc_law pm_law cd_law ct_law : Value} {od_law an_law : Option Addr} {sl_law : Array (Option Value)}
    (aC_Ratio : PySem.W.nsIn K mainGlobals "Ratio" = some (some (.ref C_Ratio)))
    (aC_Values : PySem.W.nsIn K mainGlobals "Values" = some (some (.ref C_Values)))
    (aC_BadRatio : PySem.W.nsIn K mainGlobals "BadRatio" = some (some (.ref C_BadRatio)))
    (aC_BadName : PySem.W.nsIn K mainGlobals "BadName" = some (some (.ref C_BadName)))
    (aC_BadValue : PySem.W.nsIn K mainGlobals "BadValue" = some (some (.ref C_BadValue)))
    (aC_NoValue : PySem.W.nsIn K mainGlobals "NoValue" = some (some (.ref C_NoValue)))
    (aC_NoRatio : PySem.W.nsIn K mainGlobals "NoRatio" = some (some (.ref C_NoRatio)))
    (aC_WebError : PySem.W.nsIn K mainGlobals "WebError" = some (some (.ref C_WebError)))
    (i_Ratio___init__ : PySem.W.findIn K (.ref C_Ratio) "__init__" = some (some (.ref f_Ratio___init__)))
    (j_Ratio___init__ : PySem.W.isFn K (.ref f_Ratio___init__) = true)
    (l_Ratio___init__ : K.lookup f_Ratio___init__ = some ⟨oc_Ratio___init__, od_Ratio___init__, .func (PySem.W.fnOf "__init__" "Ratio.__init__" (defArgs s_Ratio___init__) (defBody s_Ratio___init__) (defScope s_Ratio___init__) (.ref tD) kV_Ratio___init__ doc_Ratio___init__ pm_Ratio___init__ an_Ratio___init__ cd_Ratio___init__ ct_Ratio___init__), sl_Ratio___init__⟩)
    (c_Ratio___init__ : PySem.W.codeIn K cd_Ratio___init__ "Ratio.__init__" = true)
    (k_Ratio___init__ : PySem.W.keepIn K (.ref f_Ratio___init__) = true)
    (lD : K.lookup tD = some ⟨oD, dD, .seq #[.int 1 tkD] nD, sD⟩)
    (mkR1 : PySem.W.makesIn K C_Ratio = true)
    (mkR2 : PySem.W.keepIn K (.ref C_Ratio) = true)
    (pg : PySem.W.plainGet K C_Ratio Str.empty = true)
    (hd : PySem.W.hasDictIn K C_Ratio = true)
    (po : PySem.W.plainOver K C_Ratio = true)
    (sa : PySem.W.findIn K (.ref C_Ratio) "__setattr__" = some (some (.builtin "object.__setattr__")))
    (nT : PySem.W.findIn K (.ref C_Ratio) "top" = some none)
    (nB : PySem.W.findIn K (.ref C_Ratio) "bottom" = some none)
    (ca : PySem.W.findIn K (.ref C_Ratio) "__class__" = some (some (.builtin "object.__class__")))
    (cn : PySem.W.specialIn K (.builtin "object.__class__") "__get__" = some (some (.builtin "getset_descriptor.__get__")))
    (ct : PySem.W.takesIn K (.builtin "object.__class__") = some true)
    (cm : PySem.W.mroIn K C_Ratio (.type "object") = some true)
    (k0 : PySem.W.kitOne K (.type "int") (.ref C_Ratio) = some false)
    (gg : PySem.W.nsIn K mainGlobals "gcd" = some (some (.builtin "math.gcd")))
    (i_Ratio___lt__ : PySem.W.findIn K (.ref C_Ratio) "__lt__" = some (some (.ref f_Ratio___lt__)))
    (j_Ratio___lt__ : PySem.W.isFn K (.ref f_Ratio___lt__) = true)
    (i_Ratio___eq__ : PySem.W.findIn K (.ref C_Ratio) "__eq__" = some (some (.ref f_Ratio___eq__)))
    (j_Ratio___eq__ : PySem.W.isFn K (.ref f_Ratio___eq__) = true)
    (i_Ratio___str__ : PySem.W.findIn K (.ref C_Ratio) "__str__" = some (some (.ref f_Ratio___str__)))
    (j_Ratio___str__ : PySem.W.isFn K (.ref f_Ratio___str__) = true)
    (i_Ratio___repr__ : PySem.W.findIn K (.ref C_Ratio) "__repr__" = some (some (.ref f_Ratio___repr__)))
    (j_Ratio___repr__ : PySem.W.isFn K (.ref f_Ratio___repr__) = true)
    (pi_is_endless : PySem.W.findIn K (.ref C_Ratio) "is_endless" = some (some (.ref p_is_endless)))
    (pg_is_endless : PySem.W.specialIn K (.ref p_is_endless) "__get__" = some (some (.builtin "property.__get__")))
    (pt_is_endless : PySem.W.takesIn K (.ref p_is_endless) = some true)
    (pr_is_endless : PySem.W.recIn K p_is_endless "property" = some (.ref f_Ratio_is_endless :: rest_is_endless))
    (sty : PySem.W.typeIn K (.ref C_Ratio) = some mc_Ratio)
    (srd : PySem.W.readsIn K C_Ratio mc_Ratio = true)
    (sga : PySem.W.specialIn K (.ref C_Ratio) "__getattribute__" = some (some (.builtin "type.__getattribute__")))
    (sat_of : PySem.W.findCls K (.ref C_Ratio) mc_Ratio "of" = some (.get (.builtin "staticmethod.__get__") (.ref p_of) .none (.ref C_Ratio)))
    (src_of : PySem.W.recIn K p_of "staticmethod" = some (.ref f_Ratio_of :: rs_of))
    (skp_of : PySem.W.keepIn K (.ref f_Ratio_of) = true)
    (sat_endless : PySem.W.findCls K (.ref C_Ratio) mc_Ratio "endless" = some (.get (.builtin "staticmethod.__get__") (.ref p_endless) .none (.ref C_Ratio)))
    (src_endless : PySem.W.recIn K p_endless "staticmethod" = some (.ref f_Ratio_endless :: rs_endless))
    (skp_endless : PySem.W.keepIn K (.ref f_Ratio_endless) = true)
    (n1 : PySem.W.notFirst K C_Ratio (.type "int") = true)
    (n2 : PySem.W.notFirst K C_Ratio (.ref C_Ratio) = true)
    (x_kBadRatio : PySem.W.keepIn K (.ref C_BadRatio) = true)
    (x_bBadRatio : PySem.W.subIn K (.ref C_BadRatio) (.type "BaseException") = some true)
    (x_tBadRatio : PySem.W.typeIn K (.ref C_BadRatio) = some (.type "type"))
    (x_gBadRatio : PySem.W.findIn K (.ref C_BadRatio) "__getattribute__" = some (some (.builtin "BaseException.__getattribute__")))
    (x_hBadRatio : PySem.W.findIn K (.ref C_BadRatio) "__getattr__" = some none)
    (x_dBadRatio : PySem.W.hasDictIn K C_BadRatio = true)
    (x_cBadRatio : PySem.W.findIn K (.ref C_BadRatio) "__class__" = some (some (.builtin "object.__class__")))
    (x_mBadRatio : PySem.W.mroIn K C_BadRatio (.type "object") = some true)
    (x_wBadRatio : PySem.W.subIn K (.ref C_BadRatio) (.ref C_WebError) = some true)
    (x_vBadRatio : PySem.W.kitOne K (.ref C_BadRatio) (.type "ValueError") = some true)
    (wb : PySem.W.subIn K (.ref C_WebError) (.type "BaseException") = some true)
    (wd : PySem.W.hasDictIn K C_WebError = true)
    (wt : PySem.W.typeIn K (.ref C_WebError) = some (.type "type"))
    (y_xBadRatio : K.lookup C_BadRatio = some (excClassObj nmBadRatio qBadRatio C_BadRatio NBadRatio bsBadRatio bmBadRatio true snBadRatio subBadRatio abBadRatio colBadRatio ddBadRatio a0BadRatio a1BadRatio a2BadRatio a3BadRatio a5BadRatio "ValueError.__new__"))
    (y_rBadRatio : PySem.HandSPX.refsVE bmBadRatio = true)
    (y_sBadRatio : PySem.W.findIn K (.ref C_BadRatio) "__setattr__" = some (some (.builtin "object.__setattr__")))
    (y_nBadRatio : PySem.W.findIn K (.ref C_BadRatio) "at" = some none)
    (y_iBadRatio : PySem.W.findIn K (.ref C_BadRatio) "__init__" = some (some (.ref fI_BadRatio)))
    (y_tBadRatio : PySem.W.typeIn K (.ref fI_BadRatio) = some (.type "function"))
    (y_eBadRatio : PySem.W.subIn K (.ref C_BadRatio) (.ref C_BadRatio) = some true)
    (y_lBadRatio : K.lookup fI_BadRatio = some ⟨ocBadRatio, odBadRatio, .func (PySem.W.fnOf "__init__" "BadRatio.__init__" (PySem.LowA.iA p1BadRatio p2BadRatio) (PySem.LowA.iB q1BadRatio q2BadRatio q3BadRatio q4BadRatio) PySem.LowA.iS .none .none docBadRatio pmBadRatio anBadRatio cdBadRatio ctBadRatio), slBadRatio⟩)
    (y_cBadRatio : PySem.W.codeIn K cdBadRatio "BadRatio.__init__" = true)
    (ot_NoneType : PySem.W.kitOne K (.type "NoneType") (.ref C_Ratio) = some false)
    (on_NoneType : PySem.W.notFirst K C_Ratio (.type "NoneType") = true)
    (ot_bool : PySem.W.kitOne K (.type "bool") (.ref C_Ratio) = some false)
    (on_bool : PySem.W.notFirst K C_Ratio (.type "bool") = true)
    (ot_int : PySem.W.kitOne K (.type "int") (.ref C_Ratio) = some false)
    (on_int : PySem.W.notFirst K C_Ratio (.type "int") = true)
    (ot_str : PySem.W.kitOne K (.type "str") (.ref C_Ratio) = some false)
    (on_str : PySem.W.notFirst K C_Ratio (.type "str") = true)
    (ot_list : PySem.W.kitOne K (.type "list") (.ref C_Ratio) = some false)
    (on_list : PySem.W.notFirst K C_Ratio (.type "list") = true)
    (ot_tuple : PySem.W.kitOne K (.type "tuple") (.ref C_Ratio) = some false)
    (on_tuple : PySem.W.notFirst K C_Ratio (.type "tuple") = true)
    (ot_dict : PySem.W.kitOne K (.type "dict") (.ref C_Ratio) = some false)
    (on_dict : PySem.W.notFirst K C_Ratio (.type "dict") = true)
    (x_kBadName : PySem.W.keepIn K (.ref C_BadName) = true)
    (x_bBadName : PySem.W.subIn K (.ref C_BadName) (.type "BaseException") = some true)
    (x_tBadName : PySem.W.typeIn K (.ref C_BadName) = some (.type "type"))
    (x_gBadName : PySem.W.findIn K (.ref C_BadName) "__getattribute__" = some (some (.builtin "BaseException.__getattribute__")))
    (x_hBadName : PySem.W.findIn K (.ref C_BadName) "__getattr__" = some none)
    (x_dBadName : PySem.W.hasDictIn K C_BadName = true)
    (x_cBadName : PySem.W.findIn K (.ref C_BadName) "__class__" = some (some (.builtin "object.__class__")))
    (x_mBadName : PySem.W.mroIn K C_BadName (.type "object") = some true)
    (x_wBadName : PySem.W.subIn K (.ref C_BadName) (.ref C_WebError) = some true)
    (x_vBadName : PySem.W.kitOne K (.ref C_BadName) (.type "ValueError") = some true)
    (x_BNBV : PySem.W.kitOne K (.ref C_BadName) (.ref C_BadValue) = some false)
    (x_BNNV : PySem.W.kitOne K (.ref C_BadName) (.ref C_NoValue) = some false)
    (x_BNR : PySem.W.kitOne K (.ref C_BadName) (.ref C_NoRatio) = some false)
    (y_xBadName : K.lookup C_BadName = some (excClassObj nmBadName qBadName C_BadName NBadName bsBadName bmBadName true snBadName subBadName abBadName colBadName ddBadName a0BadName a1BadName a2BadName a3BadName a5BadName "ValueError.__new__"))
    (y_rBadName : PySem.HandSPX.refsVE bmBadName = true)
    (y_sBadName : PySem.W.findIn K (.ref C_BadName) "__setattr__" = some (some (.builtin "object.__setattr__")))
    (y_nBadName : PySem.W.findIn K (.ref C_BadName) "name" = some none)
    (y_iBadName : PySem.W.findIn K (.ref C_BadName) "__init__" = some (some (.ref fI_BadName)))
    (y_tBadName : PySem.W.typeIn K (.ref fI_BadName) = some (.type "function"))
    (y_eBadName : PySem.W.subIn K (.ref C_BadName) (.ref C_BadName) = some true)
    (y_lBadName : K.lookup fI_BadName = some ⟨ocBadName, odBadName, .func (PySem.W.fnOf "__init__" "BadName.__init__" (PySem.LowN.iA p1BadName p2BadName) (PySem.LowN.iB q1BadName q2BadName q3BadName q4BadName) PySem.LowN.iS .none .none docBadName pmBadName anBadName cdBadName ctBadName), slBadName⟩)
    (y_cBadName : PySem.W.codeIn K cdBadName "BadName.__init__" = true)
    (x_kBadValue : PySem.W.keepIn K (.ref C_BadValue) = true)
    (x_bBadValue : PySem.W.subIn K (.ref C_BadValue) (.type "BaseException") = some true)
    (x_tBadValue : PySem.W.typeIn K (.ref C_BadValue) = some (.type "type"))
    (x_gBadValue : PySem.W.findIn K (.ref C_BadValue) "__getattribute__" = some (some (.builtin "BaseException.__getattribute__")))
    (x_hBadValue : PySem.W.findIn K (.ref C_BadValue) "__getattr__" = some none)
    (x_dBadValue : PySem.W.hasDictIn K C_BadValue = true)
    (x_cBadValue : PySem.W.findIn K (.ref C_BadValue) "__class__" = some (some (.builtin "object.__class__")))
    (x_mBadValue : PySem.W.mroIn K C_BadValue (.type "object") = some true)
    (x_wBadValue : PySem.W.subIn K (.ref C_BadValue) (.ref C_WebError) = some true)
    (x_vBadValue : PySem.W.kitOne K (.ref C_BadValue) (.type "ValueError") = some true)
    (x_BVBN : PySem.W.kitOne K (.ref C_BadValue) (.ref C_BadName) = some false)
    (x_BVNV : PySem.W.kitOne K (.ref C_BadValue) (.ref C_NoValue) = some false)
    (x_BVR : PySem.W.kitOne K (.ref C_BadValue) (.ref C_NoRatio) = some false)
    (y_xBadValue : K.lookup C_BadValue = some (excClassObj nmBadValue qBadValue C_BadValue NBadValue bsBadValue bmBadValue true snBadValue subBadValue abBadValue colBadValue ddBadValue a0BadValue a1BadValue a2BadValue a3BadValue a5BadValue "ValueError.__new__"))
    (y_rBadValue : PySem.HandSPX.refsVE bmBadValue = true)
    (y_sBadValue : PySem.W.findIn K (.ref C_BadValue) "__setattr__" = some (some (.builtin "object.__setattr__")))
    (y_nBadValue : PySem.W.findIn K (.ref C_BadValue) "name" = some none)
    (y_iBadValue : PySem.W.findIn K (.ref C_BadValue) "__init__" = some (some (.ref fI_BadValue)))
    (y_tBadValue : PySem.W.typeIn K (.ref fI_BadValue) = some (.type "function"))
    (y_eBadValue : PySem.W.subIn K (.ref C_BadValue) (.ref C_BadValue) = some true)
    (y_lBadValue : K.lookup fI_BadValue = some ⟨ocBadValue, odBadValue, .func (PySem.W.fnOf "__init__" "BadValue.__init__" (PySem.LowN.iA p1BadValue p2BadValue) (PySem.LowN.iB q1BadValue q2BadValue q3BadValue q4BadValue) PySem.LowN.iS .none .none docBadValue pmBadValue anBadValue cdBadValue ctBadValue), slBadValue⟩)
    (y_cBadValue : PySem.W.codeIn K cdBadValue "BadValue.__init__" = true)
    (x_kNoValue : PySem.W.keepIn K (.ref C_NoValue) = true)
    (x_bNoValue : PySem.W.subIn K (.ref C_NoValue) (.type "BaseException") = some true)
    (x_tNoValue : PySem.W.typeIn K (.ref C_NoValue) = some (.type "type"))
    (x_gNoValue : PySem.W.findIn K (.ref C_NoValue) "__getattribute__" = some (some (.builtin "BaseException.__getattribute__")))
    (x_hNoValue : PySem.W.findIn K (.ref C_NoValue) "__getattr__" = some none)
    (x_dNoValue : PySem.W.hasDictIn K C_NoValue = true)
    (x_cNoValue : PySem.W.findIn K (.ref C_NoValue) "__class__" = some (some (.builtin "object.__class__")))
    (x_mNoValue : PySem.W.mroIn K C_NoValue (.type "object") = some true)
    (x_wNoValue : PySem.W.subIn K (.ref C_NoValue) (.ref C_WebError) = some true)
    (x_vNoValue : PySem.W.kitOne K (.ref C_NoValue) (.type "ValueError") = some true)
    (x_NVBN : PySem.W.kitOne K (.ref C_NoValue) (.ref C_BadName) = some false)
    (x_NVBV : PySem.W.kitOne K (.ref C_NoValue) (.ref C_BadValue) = some false)
    (x_NVR : PySem.W.kitOne K (.ref C_NoValue) (.ref C_NoRatio) = some false)
    (y_xNoValue : K.lookup C_NoValue = some (excClassObj nmNoValue qNoValue C_NoValue NNoValue bsNoValue bmNoValue true snNoValue subNoValue abNoValue colNoValue ddNoValue a0NoValue a1NoValue a2NoValue a3NoValue a5NoValue "ValueError.__new__"))
    (y_rNoValue : PySem.HandSPX.refsVE bmNoValue = true)
    (y_sNoValue : PySem.W.findIn K (.ref C_NoValue) "__setattr__" = some (some (.builtin "object.__setattr__")))
    (y_nNoValue : PySem.W.findIn K (.ref C_NoValue) "name" = some none)
    (y_iNoValue : PySem.W.findIn K (.ref C_NoValue) "__init__" = some (some (.ref fI_NoValue)))
    (y_tNoValue : PySem.W.typeIn K (.ref fI_NoValue) = some (.type "function"))
    (y_eNoValue : PySem.W.subIn K (.ref C_NoValue) (.ref C_NoValue) = some true)
    (y_lNoValue : K.lookup fI_NoValue = some ⟨ocNoValue, odNoValue, .func (PySem.W.fnOf "__init__" "NoValue.__init__" (PySem.LowN.iA p1NoValue p2NoValue) (PySem.LowN.iB q1NoValue q2NoValue q3NoValue q4NoValue) PySem.LowN.iS .none .none docNoValue pmNoValue anNoValue cdNoValue ctNoValue), slNoValue⟩)
    (y_cNoValue : PySem.W.codeIn K cdNoValue "NoValue.__init__" = true)
    (sub2 : PySem.W.subIn K (.ref C_Ratio) (.type "int") = some false)
    (kRI : PySem.W.kitOne K (.ref C_Ratio) (.type "int") = some false)
    (iV : PySem.W.findIn K (.ref C_Values) "__init__" = some (some (.ref f_Values___init__)))
    (jV : PySem.W.isFn K (.ref f_Values___init__) = true)
    (lV : K.lookup f_Values___init__ = some ⟨ocV, odV, .func (PySem.W.fnOf "__init__" "Values.__init__" (defArgs s_Values___init__) (defBody s_Values___init__) (defScope s_Values___init__) (.ref tV) kV_V docV pmV anV cdV ctV), slV⟩)
    (cV : PySem.W.codeIn K cdV "Values.__init__" = true)
    (kpV : PySem.W.keepIn K (.ref f_Values___init__) = true)
    (lDV : K.lookup tV = some ⟨oDV, dDV, .seq #[.none] nDV, sDV⟩)
    (mkV1 : PySem.W.makesIn K C_Values = true)
    (mkV2 : PySem.W.keepIn K (.ref C_Values) = true)
    (pgV : PySem.W.plainGet K C_Values Str.empty = true)
    (hdV : PySem.W.hasDictIn K C_Values = true)
    (poV : PySem.W.plainOver K C_Values = true)
    (saV : PySem.W.findIn K (.ref C_Values) "__setattr__" = some (some (.builtin "object.__setattr__")))
    (nTV : PySem.W.findIn K (.ref C_Values) "told" = some none)
    (nUV : PySem.W.findIn K (.ref C_Values) "untold" = some none)
    (nem : PySem.W.findIn K (.ref C_Ratio) "__ne__" = some (some (.builtin "object.__ne__")))
    (fmt : PySem.W.findIn K (.ref C_Ratio) "__format__" = some (some (.builtin "object.__format__")))
    (tTV : PySem.W.findIn K (.ref C_Values) "top" = some none)
    (tBV : PySem.W.findIn K (.ref C_Values) "bottom" = some none)
    (caV : PySem.W.findIn K (.ref C_Values) "__class__" = some (some (.builtin "object.__class__")))
    (cmV : PySem.W.mroIn K C_Values (.type "object") = some true)
    (k0V : PySem.W.kitOne K (.type "int") (.ref C_Values) = some false)
    (nVV : PySem.W.notFirst K C_Values (.ref C_Values) = true)
    (neV : PySem.W.findIn K (.ref C_Values) "__ne__" = some (some (.builtin "object.__ne__")))
    (ov_NoneType : PySem.W.kitOne K (.type "NoneType") (.ref C_Values) = some false)
    (ow_NoneType : PySem.W.notFirst K C_Values (.type "NoneType") = true)
    (ov_bool : PySem.W.kitOne K (.type "bool") (.ref C_Values) = some false)
    (ow_bool : PySem.W.notFirst K C_Values (.type "bool") = true)
    (ov_int : PySem.W.kitOne K (.type "int") (.ref C_Values) = some false)
    (ow_int : PySem.W.notFirst K C_Values (.type "int") = true)
    (ov_str : PySem.W.kitOne K (.type "str") (.ref C_Values) = some false)
    (ow_str : PySem.W.notFirst K C_Values (.type "str") = true)
    (ov_list : PySem.W.kitOne K (.type "list") (.ref C_Values) = some false)
    (ow_list : PySem.W.notFirst K C_Values (.type "list") = true)
    (ov_tuple : PySem.W.kitOne K (.type "tuple") (.ref C_Values) = some false)
    (ow_tuple : PySem.W.notFirst K C_Values (.type "tuple") = true)
    (ov_dict : PySem.W.kitOne K (.type "dict") (.ref C_Values) = some false)
    (ow_dict : PySem.W.notFirst K C_Values (.type "dict") = true)
    (i_V__getitem__ : PySem.W.findIn K (.ref C_Values) "__getitem__" = some (some (.ref f_Values___getitem__)))
    (j_V__getitem__ : PySem.W.isFn K (.ref f_Values___getitem__) = true)
    (i_V__contains__ : PySem.W.findIn K (.ref C_Values) "__contains__" = some (some (.ref f_Values___contains__)))
    (j_V__contains__ : PySem.W.isFn K (.ref f_Values___contains__) = true)
    (i_V__len__ : PySem.W.findIn K (.ref C_Values) "__len__" = some (some (.ref f_Values___len__)))
    (j_V__len__ : PySem.W.isFn K (.ref f_Values___len__) = true)
    (i_V__eq__ : PySem.W.findIn K (.ref C_Values) "__eq__" = some (some (.ref f_Values___eq__)))
    (j_V__eq__ : PySem.W.isFn K (.ref f_Values___eq__) = true)
    (i_V__str__ : PySem.W.findIn K (.ref C_Values) "__str__" = some (some (.ref f_Values___str__)))
    (j_V__str__ : PySem.W.isFn K (.ref f_Values___str__) = true)
    (fnG : PySem.W.fnIn K f_Values___getitem__ = true)
    (vi_names : PySem.W.findIn K (.ref C_Values) "names" = some (some (.ref p_names)))
    (vg_names : PySem.W.specialIn K (.ref p_names) "__get__" = some (some (.builtin "property.__get__")))
    (vt_names : PySem.W.takesIn K (.ref p_names) = some true)
    (vr_names : PySem.W.recIn K p_names "property" = some (.ref f_Values_names :: rest_names))
    (vi_rest : PySem.W.findIn K (.ref C_Values) "rest" = some (some (.ref p_rest)))
    (vg_rest : PySem.W.specialIn K (.ref p_rest) "__get__" = some (some (.builtin "property.__get__")))
    (vt_rest : PySem.W.takesIn K (.ref p_rest) = some true)
    (vr_rest : PySem.W.recIn K p_rest "property" = some (.ref f_Values_rest_get :: rest_rest))
    (aLG : PySem.W.nsIn K mainGlobals "LONGEST" = some (some (.int 8 LONG_t)))
    (aRS : PySem.W.nsIn K mainGlobals "RESERVED" = some (some (.ref a_RESERVED)))
    (lRS : K.lookup a_RESERVED = some ⟨.type "tuple", dRS, .seq #[.str r1 u1, .str r2 u2, .str r3 u3] nRS, sRS⟩)
    (eR1 : r1 = "open")
    (eR2 : r2 = "shut")
    (eR3 : r3 = "net")
    (l_Ratio_of : K.lookup f_Ratio_of = some ⟨oc_Ratio_of, od_Ratio_of, .func (PySem.W.fnOf "of" "Ratio.of" (defArgs s_Ratio_of) (defBody s_Ratio_of) (defScope s_Ratio_of) .none kV_Ratio_of doc_Ratio_of pm_Ratio_of an_Ratio_of cd_Ratio_of ct_Ratio_of), sl_Ratio_of⟩)
    (c_Ratio_of : PySem.W.codeIn K cd_Ratio_of "Ratio.of" = true)
    (k_Ratio_of : PySem.W.keepIn K (.ref f_Ratio_of) = true)
    (l_Ratio_endless : K.lookup f_Ratio_endless = some ⟨oc_Ratio_endless, od_Ratio_endless, .func (PySem.W.fnOf "endless" "Ratio.endless" (defArgs s_Ratio_endless) (defBody s_Ratio_endless) (defScope s_Ratio_endless) .none kV_Ratio_endless doc_Ratio_endless pm_Ratio_endless an_Ratio_endless cd_Ratio_endless ct_Ratio_endless), sl_Ratio_endless⟩)
    (c_Ratio_endless : PySem.W.codeIn K cd_Ratio_endless "Ratio.endless" = true)
    (k_Ratio_endless : PySem.W.keepIn K (.ref f_Ratio_endless) = true)
    (l_Ratio_is_endless : K.lookup f_Ratio_is_endless = some ⟨oc_Ratio_is_endless, od_Ratio_is_endless, .func (PySem.W.fnOf "is_endless" "Ratio.is_endless" (defArgs s_Ratio_is_endless) (defBody s_Ratio_is_endless) (defScope s_Ratio_is_endless) .none kV_Ratio_is_endless doc_Ratio_is_endless pm_Ratio_is_endless an_Ratio_is_endless cd_Ratio_is_endless ct_Ratio_is_endless), sl_Ratio_is_endless⟩)
    (c_Ratio_is_endless : PySem.W.codeIn K cd_Ratio_is_endless "Ratio.is_endless" = true)
    (k_Ratio_is_endless : PySem.W.keepIn K (.ref f_Ratio_is_endless) = true)
    (l_Ratio___lt__ : K.lookup f_Ratio___lt__ = some ⟨oc_Ratio___lt__, od_Ratio___lt__, .func (PySem.W.fnOf "__lt__" "Ratio.__lt__" (defArgs s_Ratio___lt__) (defBody s_Ratio___lt__) (defScope s_Ratio___lt__) .none kV_Ratio___lt__ doc_Ratio___lt__ pm_Ratio___lt__ an_Ratio___lt__ cd_Ratio___lt__ ct_Ratio___lt__), sl_Ratio___lt__⟩)
    (c_Ratio___lt__ : PySem.W.codeIn K cd_Ratio___lt__ "Ratio.__lt__" = true)
    (k_Ratio___lt__ : PySem.W.keepIn K (.ref f_Ratio___lt__) = true)
    (l_Ratio___eq__ : K.lookup f_Ratio___eq__ = some ⟨oc_Ratio___eq__, od_Ratio___eq__, .func (PySem.W.fnOf "__eq__" "Ratio.__eq__" (defArgs s_Ratio___eq__) (defBody s_Ratio___eq__) (defScope s_Ratio___eq__) .none kV_Ratio___eq__ doc_Ratio___eq__ pm_Ratio___eq__ an_Ratio___eq__ cd_Ratio___eq__ ct_Ratio___eq__), sl_Ratio___eq__⟩)
    (c_Ratio___eq__ : PySem.W.codeIn K cd_Ratio___eq__ "Ratio.__eq__" = true)
    (k_Ratio___eq__ : PySem.W.keepIn K (.ref f_Ratio___eq__) = true)
    (l_Ratio___str__ : K.lookup f_Ratio___str__ = some ⟨oc_Ratio___str__, od_Ratio___str__, .func (PySem.W.fnOf "__str__" "Ratio.__str__" (defArgs s_Ratio___str__) (defBody s_Ratio___str__) (defScope s_Ratio___str__) .none kV_Ratio___str__ doc_Ratio___str__ pm_Ratio___str__ an_Ratio___str__ cd_Ratio___str__ ct_Ratio___str__), sl_Ratio___str__⟩)
    (c_Ratio___str__ : PySem.W.codeIn K cd_Ratio___str__ "Ratio.__str__" = true)
    (k_Ratio___str__ : PySem.W.keepIn K (.ref f_Ratio___str__) = true)
    (l_Ratio___repr__ : K.lookup f_Ratio___repr__ = some ⟨oc_Ratio___repr__, od_Ratio___repr__, .func (PySem.W.fnOf "__repr__" "Ratio.__repr__" (defArgs s_Ratio___repr__) (defBody s_Ratio___repr__) (defScope s_Ratio___repr__) .none kV_Ratio___repr__ doc_Ratio___repr__ pm_Ratio___repr__ an_Ratio___repr__ cd_Ratio___repr__ ct_Ratio___repr__), sl_Ratio___repr__⟩)
    (c_Ratio___repr__ : PySem.W.codeIn K cd_Ratio___repr__ "Ratio.__repr__" = true)
    (k_Ratio___repr__ : PySem.W.keepIn K (.ref f_Ratio___repr__) = true)
    (l_Values_rest_get : K.lookup f_Values_rest_get = some ⟨oc_Values_rest_get, od_Values_rest_get, .func (PySem.W.fnOf "rest" "Values.rest" (defArgs s_Values_rest_get) (defBody s_Values_rest_get) (defScope s_Values_rest_get) .none kV_Values_rest_get doc_Values_rest_get pm_Values_rest_get an_Values_rest_get cd_Values_rest_get ct_Values_rest_get), sl_Values_rest_get⟩)
    (c_Values_rest_get : PySem.W.codeIn K cd_Values_rest_get "Values.rest" = true)
    (k_Values_rest_get : PySem.W.keepIn K (.ref f_Values_rest_get) = true)
    (l_Values_names : K.lookup f_Values_names = some ⟨oc_Values_names, od_Values_names, .func (PySem.W.fnOf "names" "Values.names" (defArgs s_Values_names) (defBody s_Values_names) (defScope s_Values_names) .none kV_Values_names doc_Values_names pm_Values_names an_Values_names cd_Values_names ct_Values_names), sl_Values_names⟩)
    (c_Values_names : PySem.W.codeIn K cd_Values_names "Values.names" = true)
    (k_Values_names : PySem.W.keepIn K (.ref f_Values_names) = true)
    (l_Values___getitem__ : K.lookup f_Values___getitem__ = some ⟨oc_Values___getitem__, od_Values___getitem__, .func (PySem.W.fnOf "__getitem__" "Values.__getitem__" (defArgs s_Values___getitem__) (defBody s_Values___getitem__) (defScope s_Values___getitem__) .none kV_Values___getitem__ doc_Values___getitem__ pm_Values___getitem__ an_Values___getitem__ cd_Values___getitem__ ct_Values___getitem__), sl_Values___getitem__⟩)
    (c_Values___getitem__ : PySem.W.codeIn K cd_Values___getitem__ "Values.__getitem__" = true)
    (k_Values___getitem__ : PySem.W.keepIn K (.ref f_Values___getitem__) = true)
    (l_Values___contains__ : K.lookup f_Values___contains__ = some ⟨oc_Values___contains__, od_Values___contains__, .func (PySem.W.fnOf "__contains__" "Values.__contains__" (defArgs s_Values___contains__) (defBody s_Values___contains__) (defScope s_Values___contains__) .none kV_Values___contains__ doc_Values___contains__ pm_Values___contains__ an_Values___contains__ cd_Values___contains__ ct_Values___contains__), sl_Values___contains__⟩)
    (c_Values___contains__ : PySem.W.codeIn K cd_Values___contains__ "Values.__contains__" = true)
    (k_Values___contains__ : PySem.W.keepIn K (.ref f_Values___contains__) = true)
    (l_Values___len__ : K.lookup f_Values___len__ = some ⟨oc_Values___len__, od_Values___len__, .func (PySem.W.fnOf "__len__" "Values.__len__" (defArgs s_Values___len__) (defBody s_Values___len__) (defScope s_Values___len__) .none kV_Values___len__ doc_Values___len__ pm_Values___len__ an_Values___len__ cd_Values___len__ ct_Values___len__), sl_Values___len__⟩)
    (c_Values___len__ : PySem.W.codeIn K cd_Values___len__ "Values.__len__" = true)
    (k_Values___len__ : PySem.W.keepIn K (.ref f_Values___len__) = true)
    (l_Values___eq__ : K.lookup f_Values___eq__ = some ⟨oc_Values___eq__, od_Values___eq__, .func (PySem.W.fnOf "__eq__" "Values.__eq__" (defArgs s_Values___eq__) (defBody s_Values___eq__) (defScope s_Values___eq__) .none kV_Values___eq__ doc_Values___eq__ pm_Values___eq__ an_Values___eq__ cd_Values___eq__ ct_Values___eq__), sl_Values___eq__⟩)
    (c_Values___eq__ : PySem.W.codeIn K cd_Values___eq__ "Values.__eq__" = true)
    (k_Values___eq__ : PySem.W.keepIn K (.ref f_Values___eq__) = true)
    (l_Values___str__ : K.lookup f_Values___str__ = some ⟨oc_Values___str__, od_Values___str__, .func (PySem.W.fnOf "__str__" "Values.__str__" (defArgs s_Values___str__) (defBody s_Values___str__) (defScope s_Values___str__) .none kV_Values___str__ doc_Values___str__ pm_Values___str__ an_Values___str__ cd_Values___str__ ct_Values___str__), sl_Values___str__⟩)
    (c_Values___str__ : PySem.W.codeIn K cd_Values___str__ "Values.__str__" = true)
    (k_Values___str__ : PySem.W.keepIn K (.ref f_Values___str__) = true)
    (a_is_int : PySem.W.nsIn K mainGlobals "is_int" = some (some (.ref f_is_int)))
    (l_is_int : K.lookup f_is_int = some ⟨oc_is_int, od_is_int, .func (PySem.W.fnOf "is_int" "is_int" (defArgs s_is_int) (defBody s_is_int) (defScope s_is_int) .none kV_is_int doc_is_int pm_is_int an_is_int cd_is_int ct_is_int), sl_is_int⟩)
    (c_is_int : PySem.W.codeIn K cd_is_int "is_int" = true)
    (k_is_int : PySem.W.keepIn K (.ref f_is_int) = true)
    (a_is_name : PySem.W.nsIn K mainGlobals "is_name" = some (some (.ref f_is_name)))
    (l_is_name : K.lookup f_is_name = some ⟨oc_is_name, od_is_name, .func (PySem.W.fnOf "is_name" "is_name" (defArgs s_is_name) (defBody s_is_name) (defScope s_is_name) .none kV_is_name doc_is_name pm_is_name an_is_name cd_is_name ct_is_name), sl_is_name⟩)
    (c_is_name : PySem.W.codeIn K cd_is_name "is_name" = true)
    (k_is_name : PySem.W.keepIn K (.ref f_is_name) = true)
    (a_value_of : PySem.W.nsIn K mainGlobals "value_of" = some (some (.ref f_value_of)))
    (l_value_of : K.lookup f_value_of = some ⟨oc_value_of, od_value_of, .func (PySem.W.fnOf "value_of" "value_of" (defArgs s_value_of) (defBody s_value_of) (defScope s_value_of) .none kV_value_of doc_value_of pm_value_of an_value_of cd_value_of ct_value_of), sl_value_of⟩)
    (c_value_of : PySem.W.codeIn K cd_value_of "value_of" = true)
    (k_value_of : PySem.W.keepIn K (.ref f_value_of) = true)
    (a__law_pen : PySem.W.nsIn K mainGlobals "_law_pen" = some (some (.ref f__law_pen)))
    (l__law_pen : K.lookup f__law_pen = some ⟨oc__law_pen, od__law_pen, .func (PySem.W.fnOf "_law_pen" "_law_pen" (defArgs s__law_pen) (defBody s__law_pen) (defScope s__law_pen) .none kV__law_pen doc__law_pen pm__law_pen an__law_pen cd__law_pen ct__law_pen), sl__law_pen⟩)
    (c__law_pen : PySem.W.codeIn K cd__law_pen "_law_pen" = true)
    (k__law_pen : PySem.W.keepIn K (.ref f__law_pen) = true)
    (a__law_draw : PySem.W.nsIn K mainGlobals "_law_draw" = some (some (.ref f__law_draw)))
    (l__law_draw : K.lookup f__law_draw = some ⟨oc__law_draw, od__law_draw, .func (PySem.W.fnOf "_law_draw" "_law_draw" (defArgs s__law_draw) (defBody s__law_draw) (defScope s__law_draw) .none kV__law_draw doc__law_draw pm__law_draw an__law_draw cd__law_draw ct__law_draw), sl__law_draw⟩)
    (c__law_draw : PySem.W.codeIn K cd__law_draw "_law_draw" = true)
    (k__law_draw : PySem.W.keepIn K (.ref f__law_draw) = true)
    (a__law_pick : PySem.W.nsIn K mainGlobals "_law_pick" = some (some (.ref f__law_pick)))
    (l__law_pick : K.lookup f__law_pick = some ⟨oc__law_pick, od__law_pick, .func (PySem.W.fnOf "_law_pick" "_law_pick" (defArgs s__law_pick) (defBody s__law_pick) (defScope s__law_pick) .none kV__law_pick doc__law_pick pm__law_pick an__law_pick cd__law_pick ct__law_pick), sl__law_pick⟩)
    (c__law_pick : PySem.W.codeIn K cd__law_pick "_law_pick" = true)
    (k__law_pick : PySem.W.keepIn K (.ref f__law_pick) = true)
    (a__law_low : PySem.W.nsIn K mainGlobals "_law_low" = some (some (.ref f__law_low)))
    (l__law_low : K.lookup f__law_low = some ⟨oc__law_low, od__law_low, .func (PySem.W.fnOf "_law_low" "_law_low" (defArgs s__law_low) (defBody s__law_low) (defScope s__law_low) .none kV__law_low doc__law_low pm__law_low an__law_low cd__law_low ct__law_low), sl__law_low⟩)
    (c__law_low : PySem.W.codeIn K cd__law_low "_law_low" = true)
    (k__law_low : PySem.W.keepIn K (.ref f__law_low) = true)
    (a__law_is : PySem.W.nsIn K mainGlobals "_law_is" = some (some (.ref f__law_is)))
    (l__law_is : K.lookup f__law_is = some ⟨oc__law_is, od__law_is, .func (PySem.W.fnOf "_law_is" "_law_is" (defArgs s__law_is) (defBody s__law_is) (defScope s__law_is) .none kV__law_is doc__law_is pm__law_is an__law_is cd__law_is ct__law_is), sl__law_is⟩)
    (c__law_is : PySem.W.codeIn K cd__law_is "_law_is" = true)
    (k__law_is : PySem.W.keepIn K (.ref f__law_is) = true)
    (a__law_fraction : PySem.W.nsIn K mainGlobals "_law_fraction" = some (some (.ref f__law_fraction)))
    (l__law_fraction : K.lookup f__law_fraction = some ⟨oc__law_fraction, od__law_fraction, .func (PySem.W.fnOf "_law_fraction" "_law_fraction" (defArgs s__law_fraction) (defBody s__law_fraction) (defScope s__law_fraction) .none kV__law_fraction doc__law_fraction pm__law_fraction an__law_fraction cd__law_fraction ct__law_fraction), sl__law_fraction⟩)
    (c__law_fraction : PySem.W.codeIn K cd__law_fraction "_law_fraction" = true)
    (k__law_fraction : PySem.W.keepIn K (.ref f__law_fraction) = true)
    (a__law_number : PySem.W.nsIn K mainGlobals "_law_number" = some (some (.ref f__law_number)))
    (l__law_number : K.lookup f__law_number = some ⟨oc__law_number, od__law_number, .func (PySem.W.fnOf "_law_number" "_law_number" (defArgs s__law_number) (defBody s__law_number) (defScope s__law_number) .none kV__law_number doc__law_number pm__law_number an__law_number cd__law_number ct__law_number), sl__law_number⟩)
    (c__law_number : PySem.W.codeIn K cd__law_number "_law_number" = true)
    (k__law_number : PySem.W.keepIn K (.ref f__law_number) = true)
    (a__law_odd_number : PySem.W.nsIn K mainGlobals "_law_odd_number" = some (some (.ref f__law_odd_number)))
    (l__law_odd_number : K.lookup f__law_odd_number = some ⟨oc__law_odd_number, od__law_odd_number, .func (PySem.W.fnOf "_law_odd_number" "_law_odd_number" (defArgs s__law_odd_number) (defBody s__law_odd_number) (defScope s__law_odd_number) .none kV__law_odd_number doc__law_odd_number pm__law_odd_number an__law_odd_number cd__law_odd_number ct__law_odd_number), sl__law_odd_number⟩)
    (c__law_odd_number : PySem.W.codeIn K cd__law_odd_number "_law_odd_number" = true)
    (k__law_odd_number : PySem.W.keepIn K (.ref f__law_odd_number) = true)
    (a__law_words : PySem.W.nsIn K mainGlobals "_law_words" = some (some (.ref f__law_words)))
    (l__law_words : K.lookup f__law_words = some ⟨oc__law_words, od__law_words, .func (PySem.W.fnOf "_law_words" "_law_words" (defArgs s__law_words) (defBody s__law_words) (defScope s__law_words) .none kV__law_words doc__law_words pm__law_words an__law_words cd__law_words ct__law_words), sl__law_words⟩)
    (c__law_words : PySem.W.codeIn K cd__law_words "_law_words" = true)
    (k__law_words : PySem.W.keepIn K (.ref f__law_words) = true)
    (a__law_heard : PySem.W.nsIn K mainGlobals "_law_heard" = some (some (.ref f__law_heard)))
    (l__law_heard : K.lookup f__law_heard = some ⟨oc__law_heard, od__law_heard, .func (PySem.W.fnOf "_law_heard" "_law_heard" (defArgs s__law_heard) (defBody s__law_heard) (defScope s__law_heard) .none kV__law_heard doc__law_heard pm__law_heard an__law_heard cd__law_heard ct__law_heard), sl__law_heard⟩)
    (c__law_heard : PySem.W.codeIn K cd__law_heard "_law_heard" = true)
    (k__law_heard : PySem.W.keepIn K (.ref f__law_heard) = true)
    (a__law_keeps : PySem.W.nsIn K mainGlobals "_law_keeps" = some (some (.ref f__law_keeps)))
    (l__law_keeps : K.lookup f__law_keeps = some ⟨oc__law_keeps, od__law_keeps, .func (PySem.W.fnOf "_law_keeps" "_law_keeps" (defArgs s__law_keeps) (defBody s__law_keeps) (defScope s__law_keeps) .none kV__law_keeps doc__law_keeps pm__law_keeps an__law_keeps cd__law_keeps ct__law_keeps), sl__law_keeps⟩)
    (c__law_keeps : PySem.W.codeIn K cd__law_keeps "_law_keeps" = true)
    (k__law_keeps : PySem.W.keepIn K (.ref f__law_keeps) = true)
    (a__law_given : PySem.W.nsIn K mainGlobals "_law_given" = some (some (.ref f__law_given)))
    (l__law_given : K.lookup f__law_given = some ⟨oc__law_given, od__law_given, .func (PySem.W.fnOf "_law_given" "_law_given" (defArgs s__law_given) (defBody s__law_given) (defScope s__law_given) .none kV__law_given doc__law_given pm__law_given an__law_given cd__law_given ct__law_given), sl__law_given⟩)
    (c__law_given : PySem.W.codeIn K cd__law_given "_law_given" = true)
    (k__law_given : PySem.W.keepIn K (.ref f__law_given) = true)
    (a__law_equal_right : PySem.W.nsIn K mainGlobals "_law_equal_right" = some (some (.ref f__law_equal_right)))
    (l__law_equal_right : K.lookup f__law_equal_right = some ⟨oc__law_equal_right, od__law_equal_right, .func (PySem.W.fnOf "_law_equal_right" "_law_equal_right" (defArgs s__law_equal_right) (defBody s__law_equal_right) (defScope s__law_equal_right) .none kV__law_equal_right doc__law_equal_right pm__law_equal_right an__law_equal_right cd__law_equal_right ct__law_equal_right), sl__law_equal_right⟩)
    (c__law_equal_right : PySem.W.codeIn K cd__law_equal_right "_law_equal_right" = true)
    (k__law_equal_right : PySem.W.keepIn K (.ref f__law_equal_right) = true)
    (a_law : PySem.W.nsIn K mainGlobals "law" = some (some (.ref f_law)))
    (l_law : K.lookup f_law = some ⟨oc_law, od_law, .func (PySem.W.fnOf "law" "law" (defArgs s_law) (defBody s_law) (defScope s_law) .none kV_law doc_law pm_law an_law cd_law ct_law), sl_law⟩)
    (c_law : PySem.W.codeIn K cd_law "law" = true)
    (k_law : PySem.W.keepIn K (.ref f_law) = true)
    (z_int : PySem.W.nsIn K mainGlobals "int" = some none)
    (z_bool : PySem.W.nsIn K mainGlobals "bool" = some none)
    (z_isinstance : PySem.W.nsIn K mainGlobals "isinstance" = some none)
    (z_list : PySem.W.nsIn K mainGlobals "list" = some none)
    (z_tuple : PySem.W.nsIn K mainGlobals "tuple" = some none)
    (z_len : PySem.W.nsIn K mainGlobals "len" = some none)
    (z_abs : PySem.W.nsIn K mainGlobals "abs" = some none)
    (z_repr : PySem.W.nsIn K mainGlobals "repr" = some none)
    (z_range : PySem.W.nsIn K mainGlobals "range" = some none)
    (z_str : PySem.W.nsIn K mainGlobals "str" = some none)
    (z_sorted : PySem.W.nsIn K mainGlobals "sorted" = some none)
    (z_dict : PySem.W.nsIn K mainGlobals "dict" = some none)
    (z_ValueError : PySem.W.nsIn K mainGlobals "ValueError" = some none)
    (codeK : cd__law_keeps = .ref cK)
    (lCK : K.lookup cK = some ⟨toK, tdK, .fields tvK, tsK⟩)
    (vPK : tvK[11]? = some (.ref PK))
    (offK : K.lookup PK = none)
    (codeL : cd_law = .ref cL)
    (lCL : K.lookup cL = some ⟨toL, tdL, .fields tvL, tsL⟩)
    (vPL : tvL[11]? = some (.ref PL))
    (offL : K.lookup PL = none)
    (neKL : PK ≠ PL) :
    ∃ T : TX K mg, T.f_law = fa ∧ (PySem.W.tabIn K "_law_keeps" = some (T.cK, T.PK) ∧ K.lookup T.PK = none) ∧ (PySem.W.tabIn K "law" = some (T.cL, T.PL) ∧ K.lookup T.PL = none) := by
  have e := hfa.symm.trans (PySem.W.mg_of X G a_law)
  have e2 : f_law = fa := by cases e; rfl
  subst e2
  have FD : FunD K "__init__" "Ratio.__init__" (defArgs s_Ratio___init__) (defBody s_Ratio___init__) (defScope s_Ratio___init__) [.int 1] [] f_Ratio___init__ _ := ⟨⟨_, _, _, _, _, _, _, _, _, _, rfl, l_Ratio___init__, c_Ratio___init__, .inr ⟨by decide, tD, _, [.int 1 tkD], nD, rfl, lD, rfl, .cons ⟨_, rfl⟩ .nil⟩, .inl rfl⟩, k_Ratio___init__⟩
  have FV : FunD K "__init__" "Values.__init__" (defArgs s_Values___init__) (defBody s_Values___init__) (defScope s_Values___init__) [.non] [] f_Values___init__ _ := ⟨⟨_, _, _, _, _, _, _, _, _, _, rfl, lV, cV, .inr ⟨by decide, tV, _, [.none], nDV, rfl, lDV, rfl, .cons rfl .nil⟩, .inl rfl⟩, kpV⟩
  exact ⟨{
      b_int := PySem.W.mg_none_of X G z_int
      b_bool := PySem.W.mg_none_of X G z_bool
      b_isinstance := PySem.W.mg_none_of X G z_isinstance
      b_list := PySem.W.mg_none_of X G z_list
      b_tuple := PySem.W.mg_none_of X G z_tuple
      b_len := PySem.W.mg_none_of X G z_len
      b_abs := PySem.W.mg_none_of X G z_abs
      b_repr := PySem.W.mg_none_of X G z_repr
      b_range := PySem.W.mg_none_of X G z_range
      b_str := PySem.W.mg_none_of X G z_str
      b_sorted := PySem.W.mg_none_of X G z_sorted
      b_dict := PySem.W.mg_none_of X G z_dict
      b_ValueError := PySem.W.mg_none_of X G z_ValueError
      f_is_int := f_is_int
      d_is_int := _
      F_is_int := fun_mk (st := s_is_int) l_is_int c_is_int k_is_int
      m_is_int := PySem.W.mg_of X G a_is_int
      f_is_name := f_is_name
      d_is_name := _
      F_is_name := fun_mk (st := s_is_name) l_is_name c_is_name k_is_name
      m_is_name := PySem.W.mg_of X G a_is_name
      f_value_of := f_value_of
      d_value_of := _
      F_value_of := fun_mk (st := s_value_of) l_value_of c_value_of k_value_of
      m_value_of := PySem.W.mg_of X G a_value_of
      f__law_pen := f__law_pen
      d__law_pen := _
      F__law_pen := fun_mk (st := s__law_pen) l__law_pen c__law_pen k__law_pen
      m__law_pen := PySem.W.mg_of X G a__law_pen
      f__law_draw := f__law_draw
      d__law_draw := _
      F__law_draw := fun_mk (st := s__law_draw) l__law_draw c__law_draw k__law_draw
      m__law_draw := PySem.W.mg_of X G a__law_draw
      f__law_pick := f__law_pick
      d__law_pick := _
      F__law_pick := fun_mk (st := s__law_pick) l__law_pick c__law_pick k__law_pick
      m__law_pick := PySem.W.mg_of X G a__law_pick
      f__law_low := f__law_low
      d__law_low := _
      F__law_low := fun_mk (st := s__law_low) l__law_low c__law_low k__law_low
      m__law_low := PySem.W.mg_of X G a__law_low
      f__law_is := f__law_is
      d__law_is := _
      F__law_is := fun_mk (st := s__law_is) l__law_is c__law_is k__law_is
      m__law_is := PySem.W.mg_of X G a__law_is
      f__law_fraction := f__law_fraction
      d__law_fraction := _
      F__law_fraction := fun_mk (st := s__law_fraction) l__law_fraction c__law_fraction k__law_fraction
      m__law_fraction := PySem.W.mg_of X G a__law_fraction
      f__law_number := f__law_number
      d__law_number := _
      F__law_number := fun_mk (st := s__law_number) l__law_number c__law_number k__law_number
      m__law_number := PySem.W.mg_of X G a__law_number
      f__law_odd_number := f__law_odd_number
      d__law_odd_number := _
      F__law_odd_number := fun_mk (st := s__law_odd_number) l__law_odd_number c__law_odd_number k__law_odd_number
      m__law_odd_number := PySem.W.mg_of X G a__law_odd_number
      f__law_words := f__law_words
      d__law_words := _
      F__law_words := fun_mk (st := s__law_words) l__law_words c__law_words k__law_words
      m__law_words := PySem.W.mg_of X G a__law_words
      f__law_heard := f__law_heard
      d__law_heard := _
      F__law_heard := fun_mk (st := s__law_heard) l__law_heard c__law_heard k__law_heard
      m__law_heard := PySem.W.mg_of X G a__law_heard
      f__law_keeps := f__law_keeps
      d__law_keeps := _
      F__law_keeps := fun_mk (st := s__law_keeps) l__law_keeps c__law_keeps k__law_keeps
      m__law_keeps := PySem.W.mg_of X G a__law_keeps
      f__law_given := f__law_given
      d__law_given := _
      F__law_given := fun_mk (st := s__law_given) l__law_given c__law_given k__law_given
      m__law_given := PySem.W.mg_of X G a__law_given
      f__law_equal_right := f__law_equal_right
      d__law_equal_right := _
      F__law_equal_right := fun_mk (st := s__law_equal_right) l__law_equal_right c__law_equal_right k__law_equal_right
      m__law_equal_right := PySem.W.mg_of X G a__law_equal_right
      f_law := f_law
      d_law := _
      F_law := fun_mk (st := s_law) l_law c_law k_law
      m_law := PySem.W.mg_of X G a_law
      C_Ratio := C_Ratio
      m_Ratio := PySem.W.mg_of X G aC_Ratio
      f_Ratio_of := f_Ratio_of
      d_Ratio_of := _
      F_Ratio_of := fun_mk (st := s_Ratio_of) l_Ratio_of c_Ratio_of k_Ratio_of
      f_Ratio_endless := f_Ratio_endless
      d_Ratio_endless := _
      F_Ratio_endless := fun_mk (st := s_Ratio_endless) l_Ratio_endless c_Ratio_endless k_Ratio_endless
      f_Ratio_is_endless := f_Ratio_is_endless
      d_Ratio_is_endless := _
      F_Ratio_is_endless := fun_mk (st := s_Ratio_is_endless) l_Ratio_is_endless c_Ratio_is_endless k_Ratio_is_endless
      f_Ratio___lt__ := f_Ratio___lt__
      d_Ratio___lt__ := _
      F_Ratio___lt__ := fun_mk (st := s_Ratio___lt__) l_Ratio___lt__ c_Ratio___lt__ k_Ratio___lt__
      f_Ratio___eq__ := f_Ratio___eq__
      d_Ratio___eq__ := _
      F_Ratio___eq__ := fun_mk (st := s_Ratio___eq__) l_Ratio___eq__ c_Ratio___eq__ k_Ratio___eq__
      f_Ratio___str__ := f_Ratio___str__
      d_Ratio___str__ := _
      F_Ratio___str__ := fun_mk (st := s_Ratio___str__) l_Ratio___str__ c_Ratio___str__ k_Ratio___str__
      f_Ratio___repr__ := f_Ratio___repr__
      d_Ratio___repr__ := _
      F_Ratio___repr__ := fun_mk (st := s_Ratio___repr__) l_Ratio___repr__ c_Ratio___repr__ k_Ratio___repr__
      C_Values := C_Values
      m_Values := PySem.W.mg_of X G aC_Values
      f_Values_rest_get := f_Values_rest_get
      d_Values_rest_get := _
      F_Values_rest_get := fun_mk (st := s_Values_rest_get) l_Values_rest_get c_Values_rest_get k_Values_rest_get
      f_Values_names := f_Values_names
      d_Values_names := _
      F_Values_names := fun_mk (st := s_Values_names) l_Values_names c_Values_names k_Values_names
      f_Values___getitem__ := f_Values___getitem__
      d_Values___getitem__ := _
      F_Values___getitem__ := fun_mk (st := s_Values___getitem__) l_Values___getitem__ c_Values___getitem__ k_Values___getitem__
      f_Values___contains__ := f_Values___contains__
      d_Values___contains__ := _
      F_Values___contains__ := fun_mk (st := s_Values___contains__) l_Values___contains__ c_Values___contains__ k_Values___contains__
      f_Values___len__ := f_Values___len__
      d_Values___len__ := _
      F_Values___len__ := fun_mk (st := s_Values___len__) l_Values___len__ c_Values___len__ k_Values___len__
      f_Values___eq__ := f_Values___eq__
      d_Values___eq__ := _
      F_Values___eq__ := fun_mk (st := s_Values___eq__) l_Values___eq__ c_Values___eq__ k_Values___eq__
      f_Values___str__ := f_Values___str__
      d_Values___str__ := _
      F_Values___str__ := fun_mk (st := s_Values___str__) l_Values___str__ c_Values___str__ k_Values___str__
      C_BadRatio := C_BadRatio
      m_BadRatio := PySem.W.mg_of X G aC_BadRatio
      C_BadName := C_BadName
      m_BadName := PySem.W.mg_of X G aC_BadName
      C_BadValue := C_BadValue
      m_BadValue := PySem.W.mg_of X G aC_BadValue
      C_NoValue := C_NoValue
      m_NoValue := PySem.W.mg_of X G aC_NoValue
      C_NoRatio := C_NoRatio
      m_NoRatio := PySem.W.mg_of X G aC_NoRatio
      C_WebError := C_WebError
      m_WebError := PySem.W.mg_of X G aC_WebError
      p_is_endless := p_is_endless
      pr_is_endless := ⟨pi_is_endless, pg_is_endless, pt_is_endless, _, pr_is_endless⟩
      mc_Ratio := mc_Ratio
      p_of := p_of
      st_of := ⟨sty, srd, sga, sat_of, ⟨_, src_of⟩, skp_of⟩
      p_endless := p_endless
      st_endless := ⟨sty, srd, sga, sat_endless, ⟨_, src_endless⟩, skp_endless⟩
      n1 := n1
      n2 := n2
      rc := ⟨⟨pg, hd, po, sa⟩, nT, nB, ca, cn, ct, cm, k0⟩
      m_gcd := PySem.W.mg_of X G gg
      f_Ratio___init__ := f_Ratio___init__
      d_Ratio___init__ := _
      F_Ratio___init__ := FD
      mk_Ratio := ⟨mkR1, i_Ratio___init__, j_Ratio___init__, mkR2⟩
      bd1 := bdOne FD
      bd2 := bdTwo FD
      fI_BadRatio := fI_BadRatio
      low_BadRatio := { gC := PySem.W.mg_of X G aC_BadRatio, cls := ⟨nmBadRatio, qBadRatio, NBadRatio, bsBadRatio, _, snBadRatio, subBadRatio, abBadRatio, colBadRatio, ddBadRatio, a0BadRatio, a1BadRatio, a2BadRatio, a3BadRatio, a5BadRatio, y_xBadRatio, y_rBadRatio⟩, sa := y_sBadRatio, ga := x_gBadRatio, gg := x_hBadRatio, noN := y_nBadRatio, iC := y_iBadRatio, tC := y_tBadRatio, kC := x_kBadRatio, exC := x_bBadRatio, tyC := x_tBadRatio, hdC := x_dBadRatio, te := PySem.W.exm_ref x_bBadRatio x_dBadRatio x_tBadRatio y_eBadRatio, fn := ⟨_, _, _, _, _, _, _, _, _, _, _, _, _, _, y_lBadRatio, y_cBadRatio⟩ }
      oth := ⟨⟨ot_NoneType, on_NoneType⟩, ⟨ot_bool, on_bool⟩, ⟨ot_int, on_int⟩, ⟨ot_str, on_str⟩, ⟨ot_list, on_list⟩, ⟨ot_tuple, on_tuple⟩, ⟨ot_dict, on_dict⟩⟩
      eBN := ⟨x_gBadName, x_hBadName, x_bBadName, x_dBadName, x_cBadName, cn, ct, x_mBadName⟩
      wBN := PySem.W.exm_ref wb wd wt x_wBadName
      kVBN := x_vBadName
      kBNBV := x_BNBV
      kBNNV := x_BNNV
      kBNR := x_BNR
      fI_BadName := fI_BadName
      low_BadName := { gC := PySem.W.mg_of X G aC_BadName, cls := ⟨nmBadName, qBadName, NBadName, bsBadName, _, snBadName, subBadName, abBadName, colBadName, ddBadName, a0BadName, a1BadName, a2BadName, a3BadName, a5BadName, y_xBadName, y_rBadName⟩, sa := y_sBadName, ga := x_gBadName, gg := x_hBadName, noN := y_nBadName, iC := y_iBadName, tC := y_tBadName, kC := x_kBadName, exC := x_bBadName, tyC := x_tBadName, hdC := x_dBadName, te := PySem.W.exm_ref x_bBadName x_dBadName x_tBadName y_eBadName, fn := ⟨_, _, _, _, _, _, _, _, _, _, _, _, _, _, y_lBadName, y_cBadName⟩ }
      eBV := ⟨x_gBadValue, x_hBadValue, x_bBadValue, x_dBadValue, x_cBadValue, cn, ct, x_mBadValue⟩
      wBV := PySem.W.exm_ref wb wd wt x_wBadValue
      kVBV := x_vBadValue
      kBVBN := x_BVBN
      kBVNV := x_BVNV
      kBVR := x_BVR
      fI_BadValue := fI_BadValue
      low_BadValue := { gC := PySem.W.mg_of X G aC_BadValue, cls := ⟨nmBadValue, qBadValue, NBadValue, bsBadValue, _, snBadValue, subBadValue, abBadValue, colBadValue, ddBadValue, a0BadValue, a1BadValue, a2BadValue, a3BadValue, a5BadValue, y_xBadValue, y_rBadValue⟩, sa := y_sBadValue, ga := x_gBadValue, gg := x_hBadValue, noN := y_nBadValue, iC := y_iBadValue, tC := y_tBadValue, kC := x_kBadValue, exC := x_bBadValue, tyC := x_tBadValue, hdC := x_dBadValue, te := PySem.W.exm_ref x_bBadValue x_dBadValue x_tBadValue y_eBadValue, fn := ⟨_, _, _, _, _, _, _, _, _, _, _, _, _, _, y_lBadValue, y_cBadValue⟩ }
      eNV := ⟨x_gNoValue, x_hNoValue, x_bNoValue, x_dNoValue, x_cNoValue, cn, ct, x_mNoValue⟩
      wNV := PySem.W.exm_ref wb wd wt x_wNoValue
      kVNV := x_vNoValue
      kNVBN := x_NVBN
      kNVBV := x_NVBV
      kNVR := x_NVR
      fI_NoValue := fI_NoValue
      low_NoValue := { gC := PySem.W.mg_of X G aC_NoValue, cls := ⟨nmNoValue, qNoValue, NNoValue, bsNoValue, _, snNoValue, subNoValue, abNoValue, colNoValue, ddNoValue, a0NoValue, a1NoValue, a2NoValue, a3NoValue, a5NoValue, y_xNoValue, y_rNoValue⟩, sa := y_sNoValue, ga := x_gNoValue, gg := x_hNoValue, noN := y_nNoValue, iC := y_iNoValue, tC := y_tNoValue, kC := x_kNoValue, exC := x_bNoValue, tyC := x_tNoValue, hdC := x_dNoValue, te := PySem.W.exm_ref x_bNoValue x_dNoValue x_tNoValue y_eNoValue, fn := ⟨_, _, _, _, _, _, _, _, _, _, _, _, _, _, y_lNoValue, y_cNoValue⟩ }
      kRI := kRI
      subR := sub2
      lt := ⟨i_Ratio___lt__, j_Ratio___lt__⟩
      f_Values___init__ := f_Values___init__
      d_Values___init__ := _
      F_Values___init__ := FV
      mk_Values := ⟨mkV1, iV, jV, mkV2⟩
      bdV := bdVals FV
      bdV0 := bdVals0 FV
      kbV := kbVals FV
      nf := n2
      nVV := nVV
      rcV := ⟨⟨pgV, hdV, poV, saV⟩, tTV, tBV, caV, cn, ct, cmV, k0V⟩
      othV := ⟨⟨ov_NoneType, ow_NoneType⟩, ⟨ov_bool, ow_bool⟩, ⟨ov_int, ow_int⟩, ⟨ov_str, ow_str⟩, ⟨ov_list, ow_list⟩, ⟨ov_tuple, ow_tuple⟩, ⟨ov_dict, ow_dict⟩⟩
      eqV := ⟨i_V__eq__, j_V__eq__⟩
      stV := ⟨i_V__str__, j_V__str__⟩
      neV := neV
      nem := nem
      fmt := fmt
      st := ⟨i_Ratio___str__, j_Ratio___str__⟩
      rp := ⟨i_Ratio___repr__, j_Ratio___repr__⟩
      eqm := ⟨i_Ratio___eq__, j_Ratio___eq__⟩
      vc := ⟨pgV, hdV, poV, saV⟩
      nTold := nTV
      nUnt := nUV
      gi := ⟨i_V__getitem__, j_V__getitem__, fnG⟩
      ci := ⟨i_V__contains__, j_V__contains__⟩
      li := ⟨i_V__len__, j_V__len__⟩
      p_names := p_names
      pr_names := ⟨vi_names, vg_names, vt_names, _, vr_names⟩
      p_rest := p_rest
      pr_rest := ⟨vi_rest, vg_rest, vt_rest, _, vr_rest⟩
      LONG_t := LONG_t
      m_LONGEST := PySem.W.mg_of X G aLG
      a_RESERVED := a_RESERVED
      m_RESERVED := PySem.W.mg_of X G aRS
      resT := fun H => .inr ⟨_, _, _, lRS, rfl, rfl, (by show 3 ≤ sizeLine; decide), .cons ⟨u1, by rw [eR1]⟩ (.cons ⟨u2, by rw [eR2]⟩ (.cons ⟨u3, by rw [eR3]⟩ .nil))⟩
      cK := cK
      PK := PK
      codeK := codeK
      cL := cL
      PL := PL
      codeL := codeL
      neKL := neKL }, rfl, ⟨tabIn_of a__law_keeps l__law_keeps codeK lCK vPK, offK⟩, ⟨tabIn_of a_law l_law codeL lCL vPL, offL⟩⟩
theorem walk {l : PySem.W.OpenLaw} {qq : Program} {loose : List Str} {XP : (Str → Option Value) → Heap → Prop} {YP : World → Heap → Prop} {d : DefRec} {K : Params → PySem.W.Frag} (hn : l.most = some 63) (hdf : d.params.defaults = []) (hY : ∀ (w : World) (h : Heap), YP w h → (K w.params).In h)
    (hx : ∀ x ∈ (["_law_keeps", "law"] : List Str), ((recsOf qq).find? (fun e => e.name == x)).isSome = true)
    (F : ∀ (w : World) (mg : Str → Option Value) (fa : Addr) (h : Heap), (K w.params).In h → h.Ns mainGlobals mg → mg d.name = some (.ref fa) → ∃ T : TX (K w.params) mg, T.f_law = fa ∧ (PySem.W.tabIn (K w.params) "_law_keeps" = some (T.cK, T.PK) ∧ (K w.params).lookup T.PK = none) ∧ (PySem.W.tabIn (K w.params) "law" = some (T.cL, T.PL) ∧ (K w.params).lookup T.PL = none)) :
    PySem.W.WalkO qq loose XP YP l.row.toRowW d [] (fun f vs => PySem.call f vs) := by
  refine walkGT (n := 63) (k := 19) (xs := ["_law_keeps", "law"]) (g := fun cs K => spLawE K [(((cs[0]?).map Prod.snd).getD 0, lamK), (((cs[1]?).map Prod.snd).getD 0, lamL)]) hn (by decide) hdf ⟨rfl, by decide, by decide⟩ hY hx (fun w mg fa h KX G hmg => ?_)
  obtain ⟨T, rfl, ⟨htK, hoK⟩, ⟨htL, hoL⟩⟩ := F w mg fa h KX G hmg
  refine ⟨[(T.cK, T.PK), (T.cL, T.PL)], fun p hp => ?_, fun base _ _ TB => g_law T (TB _ (List.mem_cons_of_mem _ List.mem_cons_self)) (TB _ List.mem_cons_self), fun H a ns hl hH hS => ⟨a, ns, rfl, hS, hl, fun q hq => ?_, fun _ => rfl⟩⟩
  · rcases List.mem_cons.mp hp with rfl | hp
    · exact ⟨⟨_, List.mem_cons_self, htK⟩, hoK⟩
    rw [List.mem_singleton.mp hp]
    exact ⟨⟨_, (List.mem_cons_of_mem _ List.mem_cons_self), htL⟩, hoL⟩
  · rcases List.mem_cons.mp hq with rfl | hq
    · exact TabS.nil (hH _ List.mem_cons_self)
    rw [List.mem_singleton.mp hq]
    exact TabS.nil (hH _ (List.mem_cons_of_mem _ List.mem_cons_self))
end RR
open PySem PySem.W PyProof.Rows
set_option maxRecDepth 100000 in
set_option maxHeartbeats 0 in
theorem PySem.Challenge.cw_sixasone_k26_values_made_holds : PySem.Challenge.rw_sixasone_k26_values_made.Holds := by
  w_on; o_law; k_head; (case hw => w_witness2)
  k_fill
  refine RR.walk (l := PySem.Challenge.rw_sixasone_k26_values_made) rfl rfl (fun w h Y => PySem.W.km_in_of Y) (by decide +kernel) ?F
  case F =>
    intro w mg fa h KX G hmg
    refine' RR.build KX G hmg ?aC_Ratio ?aC_Values ?aC_BadRatio ?aC_BadName ?aC_BadValue ?aC_NoValue ?aC_NoRatio ?aC_WebError ?i_Ratio___init__ ?j_Ratio___init__ ?l_Ratio___init__ ?c_Ratio___init__ ?k_Ratio___init__ ?lD ?mkR1 ?mkR2 ?pg ?hd ?po ?sa ?nT ?nB ?ca ?cn ?ct ?cm ?k0 ?gg ?i_Ratio___lt__ ?j_Ratio___lt__ ?i_Ratio___eq__ ?j_Ratio___eq__ ?i_Ratio___str__ ?j_Ratio___str__ ?i_Ratio___repr__ ?j_Ratio___repr__ ?pi_is_endless ?pg_is_endless ?pt_is_endless ?pr_is_endless ?sty ?srd ?sga ?sat_of ?src_of ?skp_of ?sat_endless ?src_endless ?skp_endless ?n1 ?n2 ?x_kBadRatio ?x_bBadRatio ?x_tBadRatio ?x_gBadRatio ?x_hBadRatio ?x_dBadRatio ?x_cBadRatio ?x_mBadRatio ?x_wBadRatio ?x_vBadRatio ?wb ?wd ?wt ?y_xBadRatio ?y_rBadRatio ?y_sBadRatio ?y_nBadRatio ?y_iBadRatio ?y_tBadRatio ?y_eBadRatio ?y_lBadRatio ?y_cBadRatio ?ot_NoneType ?on_NoneType ?ot_bool ?on_bool ?ot_int ?on_int ?ot_str ?on_str ?ot_list ?on_list ?ot_tuple ?on_tuple ?ot_dict ?on_dict ?x_kBadName ?x_bBadName ?x_tBadName ?x_gBadName ?x_hBadName ?x_dBadName ?x_cBadName ?x_mBadName ?x_wBadName ?x_vBadName ?x_BNBV ?x_BNNV ?x_BNR ?y_xBadName ?y_rBadName ?y_sBadName ?y_nBadName ?y_iBadName ?y_tBadName ?y_eBadName ?y_lBadName ?y_cBadName ?x_kBadValue ?x_bBadValue ?x_tBadValue ?x_gBadValue ?x_hBadValue ?x_dBadValue ?x_cBadValue ?x_mBadValue ?x_wBadValue ?x_vBadValue ?x_BVBN ?x_BVNV ?x_BVR ?y_xBadValue ?y_rBadValue ?y_sBadValue ?y_nBadValue ?y_iBadValue ?y_tBadValue ?y_eBadValue ?y_lBadValue ?y_cBadValue ?x_kNoValue ?x_bNoValue ?x_tNoValue ?x_gNoValue ?x_hNoValue ?x_dNoValue ?x_cNoValue ?x_mNoValue ?x_wNoValue ?x_vNoValue ?x_NVBN ?x_NVBV ?x_NVR ?y_xNoValue ?y_rNoValue ?y_sNoValue ?y_nNoValue ?y_iNoValue ?y_tNoValue ?y_eNoValue ?y_lNoValue ?y_cNoValue ?sub2 ?kRI ?iV ?jV ?lV ?cV ?kpV ?lDV ?mkV1 ?mkV2 ?pgV ?hdV ?poV ?saV ?nTV ?nUV ?nem ?fmt ?tTV ?tBV ?caV ?cmV ?k0V ?nVV ?neV ?ov_NoneType ?ow_NoneType ?ov_bool ?ow_bool ?ov_int ?ow_int ?ov_str ?ow_str ?ov_list ?ow_list ?ov_tuple ?ow_tuple ?ov_dict ?ow_dict ?i_V__getitem__ ?j_V__getitem__ ?i_V__contains__ ?j_V__contains__ ?i_V__len__ ?j_V__len__ ?i_V__eq__ ?j_V__eq__ ?i_V__str__ ?j_V__str__ ?fnG ?vi_names ?vg_names ?vt_names ?vr_names ?vi_rest ?vg_rest ?vt_rest ?vr_rest ?aLG ?aRS ?lRS ?eR1 ?eR2 ?eR3 ?l_Ratio_of ?c_Ratio_of ?k_Ratio_of ?l_Ratio_endless ?c_Ratio_endless ?k_Ratio_endless ?l_Ratio_is_endless ?c_Ratio_is_endless ?k_Ratio_is_endless ?l_Ratio___lt__ ?c_Ratio___lt__ ?k_Ratio___lt__ ?l_Ratio___eq__ ?c_Ratio___eq__ ?k_Ratio___eq__ ?l_Ratio___str__ ?c_Ratio___str__ ?k_Ratio___str__ ?l_Ratio___repr__ ?c_Ratio___repr__ ?k_Ratio___repr__ ?l_Values_rest_get ?c_Values_rest_get ?k_Values_rest_get ?l_Values_names ?c_Values_names ?k_Values_names ?l_Values___getitem__ ?c_Values___getitem__ ?k_Values___getitem__ ?l_Values___contains__ ?c_Values___contains__ ?k_Values___contains__ ?l_Values___len__ ?c_Values___len__ ?k_Values___len__ ?l_Values___eq__ ?c_Values___eq__ ?k_Values___eq__ ?l_Values___str__ ?c_Values___str__ ?k_Values___str__ ?a_is_int ?l_is_int ?c_is_int ?k_is_int ?a_is_name ?l_is_name ?c_is_name ?k_is_name ?a_value_of ?l_value_of ?c_value_of ?k_value_of ?a__law_pen ?l__law_pen ?c__law_pen ?k__law_pen ?a__law_draw ?l__law_draw ?c__law_draw ?k__law_draw ?a__law_pick ?l__law_pick ?c__law_pick ?k__law_pick ?a__law_low ?l__law_low ?c__law_low ?k__law_low ?a__law_is ?l__law_is ?c__law_is ?k__law_is ?a__law_fraction ?l__law_fraction ?c__law_fraction ?k__law_fraction ?a__law_number ?l__law_number ?c__law_number ?k__law_number ?a__law_odd_number ?l__law_odd_number ?c__law_odd_number ?k__law_odd_number ?a__law_words ?l__law_words ?c__law_words ?k__law_words ?a__law_heard ?l__law_heard ?c__law_heard ?k__law_heard ?a__law_keeps ?l__law_keeps ?c__law_keeps ?k__law_keeps ?a__law_given ?l__law_given ?c__law_given ?k__law_given ?a__law_equal_right ?l__law_equal_right ?c__law_equal_right ?k__law_equal_right ?a_law ?l_law ?c_law ?k_law ?z_int ?z_bool ?z_isinstance ?z_list ?z_tuple ?z_len ?z_abs ?z_repr ?z_range ?z_str ?z_sorted ?z_dict ?z_ValueError ?codeK ?lCK ?vPK ?offK ?codeL ?lCL ?vPL ?offL ?neKL
    (case aC_Ratio => k_is)
    (case aC_Values => k_is)
    (case aC_BadRatio => k_is)
    (case aC_BadName => k_is)
    (case aC_BadValue => k_is)
    (case aC_NoValue => k_is)
    (case aC_NoRatio => k_is)
    (case aC_WebError => k_is)
    (case i_Ratio___init__ => k_is)
    (case j_Ratio___init__ => k_is)
    (case l_Ratio___init__ => k_is)
    (case c_Ratio___init__ => k_is)
    (case k_Ratio___init__ => k_is)
    (case lD => k_is)
    (case mkR1 => k_is)
    (case mkR2 => k_is)
    (case pg => k_is)
    (case hd => k_is)
    (case po => k_is)
    (case sa => k_is)
    (case nT => k_is)
    (case nB => k_is)
    (case ca => k_is)
    (case cn => k_is)
    (case ct => k_is)
    (case cm => k_is)
    (case k0 => kit_is)
    (case gg => k_is)
    (case i_Ratio___lt__ => k_is)
    (case j_Ratio___lt__ => k_is)
    (case i_Ratio___eq__ => k_is)
    (case j_Ratio___eq__ => k_is)
    (case i_Ratio___str__ => k_is)
    (case j_Ratio___str__ => k_is)
    (case i_Ratio___repr__ => k_is)
    (case j_Ratio___repr__ => k_is)
    (case pi_is_endless => k_is)
    (case pg_is_endless => k_is)
    (case pt_is_endless => k_is)
    (case pr_is_endless => k_is)
    (case sty => k_is)
    (case srd => k_is)
    (case sga => k_is)
    (case sat_of => k_is)
    (case src_of => k_is)
    (case skp_of => k_is)
    (case sat_endless => k_is)
    (case src_endless => k_is)
    (case skp_endless => k_is)
    (case n1 => k_is)
    (case n2 => k_is)
    (case x_kBadRatio => k_is)
    (case x_bBadRatio => k_is)
    (case x_tBadRatio => k_is)
    (case x_gBadRatio => k_is)
    (case x_hBadRatio => k_is)
    (case x_dBadRatio => k_is)
    (case x_cBadRatio => k_is)
    (case x_mBadRatio => k_is)
    (case x_wBadRatio => k_is)
    (case x_vBadRatio => kit_is)
    (case wb => k_is)
    (case wd => k_is)
    (case wt => k_is)
    (case y_xBadRatio => k_is)
    (case y_rBadRatio => first | rfl | decide +kernel)
    (case y_sBadRatio => k_is)
    (case y_nBadRatio => k_is)
    (case y_iBadRatio => k_is)
    (case y_tBadRatio => k_is)
    (case y_eBadRatio => (first | rfl | k_is))
    (case y_lBadRatio => k_is)
    (case y_cBadRatio => k_is)
    (case ot_NoneType => kit_is)
    (case on_NoneType => k_is)
    (case ot_bool => kit_is)
    (case on_bool => k_is)
    (case ot_int => kit_is)
    (case on_int => k_is)
    (case ot_str => kit_is)
    (case on_str => k_is)
    (case ot_list => kit_is)
    (case on_list => k_is)
    (case ot_tuple => kit_is)
    (case on_tuple => k_is)
    (case ot_dict => kit_is)
    (case on_dict => k_is)
    (case x_kBadName => k_is)
    (case x_bBadName => k_is)
    (case x_tBadName => k_is)
    (case x_gBadName => k_is)
    (case x_hBadName => k_is)
    (case x_dBadName => k_is)
    (case x_cBadName => k_is)
    (case x_mBadName => k_is)
    (case x_wBadName => k_is)
    (case x_vBadName => kit_is)
    (case x_BNBV => kit_is)
    (case x_BNNV => kit_is)
    (case x_BNR => kit_is)
    (case y_xBadName => k_is)
    (case y_rBadName => first | rfl | decide +kernel)
    (case y_sBadName => k_is)
    (case y_nBadName => k_is)
    (case y_iBadName => k_is)
    (case y_tBadName => k_is)
    (case y_eBadName => (first | rfl | k_is))
    (case y_lBadName => k_is)
    (case y_cBadName => k_is)
    (case x_kBadValue => k_is)
    (case x_bBadValue => k_is)
    (case x_tBadValue => k_is)
    (case x_gBadValue => k_is)
    (case x_hBadValue => k_is)
    (case x_dBadValue => k_is)
    (case x_cBadValue => k_is)
    (case x_mBadValue => k_is)
    (case x_wBadValue => k_is)
    (case x_vBadValue => kit_is)
    (case x_BVBN => kit_is)
    (case x_BVNV => kit_is)
    (case x_BVR => kit_is)
    (case y_xBadValue => k_is)
    (case y_rBadValue => first | rfl | decide +kernel)
    (case y_sBadValue => k_is)
    (case y_nBadValue => k_is)
    (case y_iBadValue => k_is)
    (case y_tBadValue => k_is)
    (case y_eBadValue => (first | rfl | k_is))
    (case y_lBadValue => k_is)
    (case y_cBadValue => k_is)
    (case x_kNoValue => k_is)
    (case x_bNoValue => k_is)
    (case x_tNoValue => k_is)
    (case x_gNoValue => k_is)
    (case x_hNoValue => k_is)
    (case x_dNoValue => k_is)
    (case x_cNoValue => k_is)
    (case x_mNoValue => k_is)
    (case x_wNoValue => k_is)
    (case x_vNoValue => kit_is)
    (case x_NVBN => kit_is)
    (case x_NVBV => kit_is)
    (case x_NVR => kit_is)
    (case y_xNoValue => k_is)
    (case y_rNoValue => first | rfl | decide +kernel)
    (case y_sNoValue => k_is)
    (case y_nNoValue => k_is)
    (case y_iNoValue => k_is)
    (case y_tNoValue => k_is)
    (case y_eNoValue => (first | rfl | k_is))
    (case y_lNoValue => k_is)
    (case y_cNoValue => k_is)
    (case sub2 => k_is)
    (case kRI => kit_is)
    (case iV => k_is)
    (case jV => k_is)
    (case lV => k_is)
    (case cV => k_is)
    (case kpV => k_is)
    (case lDV => k_is)
    (case mkV1 => k_is)
    (case mkV2 => k_is)
    (case pgV => k_is)
    (case hdV => k_is)
    (case poV => k_is)
    (case saV => k_is)
    (case nTV => k_is)
    (case nUV => k_is)
    (case nem => k_is)
    (case fmt => k_is)
    (case tTV => k_is)
    (case tBV => k_is)
    (case caV => k_is)
    (case cmV => k_is)
    (case k0V => kit_is)
    (case nVV => k_is)
    (case neV => k_is)
    (case ov_NoneType => kit_is)
    (case ow_NoneType => k_is)
    (case ov_bool => kit_is)
    (case ow_bool => k_is)
    (case ov_int => kit_is)
    (case ow_int => k_is)
    (case ov_str => kit_is)
    (case ow_str => k_is)
    (case ov_list => kit_is)
    (case ow_list => k_is)
    (case ov_tuple => kit_is)
    (case ow_tuple => k_is)
    (case ov_dict => kit_is)
    (case ow_dict => k_is)
    (case i_V__getitem__ => k_is)
    (case j_V__getitem__ => k_is)
    (case i_V__contains__ => k_is)
    (case j_V__contains__ => k_is)
    (case i_V__len__ => k_is)
    (case j_V__len__ => k_is)
    (case i_V__eq__ => k_is)
    (case j_V__eq__ => k_is)
    (case i_V__str__ => k_is)
    (case j_V__str__ => k_is)
    (case fnG => (first | k_is | kernel_rfl))
    (case vi_names => k_is)
    (case vg_names => k_is)
    (case vt_names => k_is)
    (case vr_names => k_is)
    (case vi_rest => k_is)
    (case vg_rest => k_is)
    (case vt_rest => k_is)
    (case vr_rest => k_is)
    (case aLG => k_is)
    (case aRS => k_is)
    (case lRS => k_is)
    (case eR1 => (first | rfl | decide +kernel))
    (case eR2 => (first | rfl | decide +kernel))
    (case eR3 => (first | rfl | decide +kernel))
    (case l_Ratio_of => k_is)
    (case c_Ratio_of => k_is)
    (case k_Ratio_of => k_is)
    (case l_Ratio_endless => k_is)
    (case c_Ratio_endless => k_is)
    (case k_Ratio_endless => k_is)
    (case l_Ratio_is_endless => k_is)
    (case c_Ratio_is_endless => k_is)
    (case k_Ratio_is_endless => k_is)
    (case l_Ratio___lt__ => k_is)
    (case c_Ratio___lt__ => k_is)
    (case k_Ratio___lt__ => k_is)
    (case l_Ratio___eq__ => k_is)
    (case c_Ratio___eq__ => k_is)
    (case k_Ratio___eq__ => k_is)
    (case l_Ratio___str__ => k_is)
    (case c_Ratio___str__ => k_is)
    (case k_Ratio___str__ => k_is)
    (case l_Ratio___repr__ => k_is)
    (case c_Ratio___repr__ => k_is)
    (case k_Ratio___repr__ => k_is)
    (case l_Values_rest_get => k_is)
    (case c_Values_rest_get => k_is)
    (case k_Values_rest_get => k_is)
    (case l_Values_names => k_is)
    (case c_Values_names => k_is)
    (case k_Values_names => k_is)
    (case l_Values___getitem__ => k_is)
    (case c_Values___getitem__ => k_is)
    (case k_Values___getitem__ => k_is)
    (case l_Values___contains__ => k_is)
    (case c_Values___contains__ => k_is)
    (case k_Values___contains__ => k_is)
    (case l_Values___len__ => k_is)
    (case c_Values___len__ => k_is)
    (case k_Values___len__ => k_is)
    (case l_Values___eq__ => k_is)
    (case c_Values___eq__ => k_is)
    (case k_Values___eq__ => k_is)
    (case l_Values___str__ => k_is)
    (case c_Values___str__ => k_is)
    (case k_Values___str__ => k_is)
    (case a_is_int => k_is)
    (case l_is_int => k_is)
    (case c_is_int => k_is)
    (case k_is_int => k_is)
    (case a_is_name => k_is)
    (case l_is_name => k_is)
    (case c_is_name => k_is)
    (case k_is_name => k_is)
    (case a_value_of => k_is)
    (case l_value_of => k_is)
    (case c_value_of => k_is)
    (case k_value_of => k_is)
    (case a__law_pen => k_is)
    (case l__law_pen => k_is)
    (case c__law_pen => k_is)
    (case k__law_pen => k_is)
    (case a__law_draw => k_is)
    (case l__law_draw => k_is)
    (case c__law_draw => k_is)
    (case k__law_draw => k_is)
    (case a__law_pick => k_is)
    (case l__law_pick => k_is)
    (case c__law_pick => k_is)
    (case k__law_pick => k_is)
    (case a__law_low => k_is)
    (case l__law_low => k_is)
    (case c__law_low => k_is)
    (case k__law_low => k_is)
    (case a__law_is => k_is)
    (case l__law_is => k_is)
    (case c__law_is => k_is)
    (case k__law_is => k_is)
    (case a__law_fraction => k_is)
    (case l__law_fraction => k_is)
    (case c__law_fraction => k_is)
    (case k__law_fraction => k_is)
    (case a__law_number => k_is)
    (case l__law_number => k_is)
    (case c__law_number => k_is)
    (case k__law_number => k_is)
    (case a__law_odd_number => k_is)
    (case l__law_odd_number => k_is)
    (case c__law_odd_number => k_is)
    (case k__law_odd_number => k_is)
    (case a__law_words => k_is)
    (case l__law_words => k_is)
    (case c__law_words => k_is)
    (case k__law_words => k_is)
    (case a__law_heard => k_is)
    (case l__law_heard => k_is)
    (case c__law_heard => k_is)
    (case k__law_heard => k_is)
    (case a__law_keeps => k_is)
    (case l__law_keeps => k_is)
    (case c__law_keeps => k_is)
    (case k__law_keeps => k_is)
    (case a__law_given => k_is)
    (case l__law_given => k_is)
    (case c__law_given => k_is)
    (case k__law_given => k_is)
    (case a__law_equal_right => k_is)
    (case l__law_equal_right => k_is)
    (case c__law_equal_right => k_is)
    (case k__law_equal_right => k_is)
    (case a_law => k_is)
    (case l_law => k_is)
    (case c_law => k_is)
    (case k_law => k_is)
    (case z_int => k_is)
    (case z_bool => k_is)
    (case z_isinstance => k_is)
    (case z_list => k_is)
    (case z_tuple => k_is)
    (case z_len => k_is)
    (case z_abs => k_is)
    (case z_repr => k_is)
    (case z_range => k_is)
    (case z_str => k_is)
    (case z_sorted => k_is)
    (case z_dict => k_is)
    (case z_ValueError => k_is)
    (case codeK => rfl)
    (case lCK => k_is)
    (case vPK => rfl)
    (case offK => (first | kernel_rfl | rfl | k_is))
    (case codeL => rfl)
    (case lCL => k_is)
    (case vPL => rfl)
    (case offL => (first | kernel_rfl | rfl | k_is))
    (case neKL => decide)
