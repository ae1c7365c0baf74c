import PyProof.Rows.All
import Wide.All
import OpenK.AllK
import Wide.FinOn
import HandS.Base
import HandS.Call
import HandS.List
import HandS.Ends
import HandS.Words
import HandS.More
import KE.KOpsOwn
import HandS.IsInst
import HandS.Property
import HandS.Gcd
import HandS.Wide
import HandS.ClsMeth
import HandS.Defaults
import PyProof.SeqRoads
import PyProof.AutoListH
import PyProof.FactsAll.int
import PyProof.Rows.RuleN_abs
import PyProof.Rows.ReprR
import PyProof.FitsInt
import HandS.ForMost
import HandS.Style
import HandS.Lambda
import HandS.EndTab
import HandS.ExcIs
import HandS.ExcOwn
import HandS.ExcValue
import HandS.SetFor
import HandS.WordsExc
import HandS.MakeKw
import HandS.RaiseMore
import KE.KCallOwn
import KE.KFmtOwn
import KE.RegKCallOwn
import KE.KExcIs
import PyProof.InstEq
import HandS.SlotsOwn
import HandS.FStr
import HandS.Small
import HandS.TupSets
import PyProof.TupleKey
import KE.KSortTupG
import KE.KDictCopyH
import HandS.SortKw
import KE.SortKeyHeap
import KE.SortData
import PyProof.ReprLen
import PyProof.StrLawsRepr
import PyProof.Rows.ReprOcc
import PyProof.Conv_bool
import PyProof.ReprReads
import HandS.Dict
import PyProof.ReprNest
import PyProof.StrHeap
import HandS.Iter
import HandS.Walk
import KE.GoesMore
import KE.LcSums
import PyProof.EqAt
import PyProof.MeetsIn
import HandS.Codes
import KE.IntTextText
import HandS.DictComp
import HandS.DictEq
import HandS.OwnEq
import PyProof.ReprDict
import PyProof.Rows.StrReprJoin
import HandS.Nested
import KE.GoesComp
import KE.GoesRaise
import HandS.Exc
import HandS.WordsDict
import PyProof.FactsAll.NoneType_1
import PyProof.ReprText
import HandS.Text
import HandS.Star
import PyProof.AutoSeq1
import KE.KRevSl
import PyProof.P3In
import PyProof.FactsAll.tuple_1
import PyProof.FactsAll.dict_1
import PyProof.EqKinds
import PyProof.DictKind
import HandS.StrMore
import HandS.Deep
import HandS.Conv
import PySem.Challenge.RW_sixasone_k52_ways_and_cuts_looked_at
import KE.KNestM
import HandS.Head3
import PyProof.CallFns
import HandS.TupMul
import HandS.TupAny
import HandS.TryOnly
set_option Elab.async false
set_option linter.all false
set_option maxRecDepth 100000
set_option maxHeartbeats 2000000
namespace RR
open PySem PySem.Spec PyProof.Rows L2

/-- no display of an object is under way -/
abbrev Free (A : Around) : Prop := A.guards = some []
theorem free_deeper {A : Around} (env : Env) (h : Free A) : Free (A.deeper env) := h

/-- a def of the text keeps its promise wherever no display is under way; C: how an error lies behind the call -/
def FnG (P : Program) (w : World) (K : PySem.W.Frag) (mg : Str → Option Value) (base : Heap) (C : CXT) (k : Nat) (f : Addr) (g : Sp) : Prop :=
  ∀ (A : Around) (out : List Env) (s : Shared) (H : Hp) (us : List Value) (vs : List V) (Q : VK) (E : XK), Room k A → Free A → Env0 P w K mg base A out s H → Vals vs us → g vs H Q E →
    codeAny (model P w) A (.call (.ref f) ⟨us, []⟩) (CR C out P w H s Q E) s

section
variable {P : Program} {w : World} {K : PySem.W.Frag} {mg : Str → Option Value} {base : Heap} {C : CXT} {j k : Nat} {f : Addr} {g g' : Sp}
/-- every argument is given -/
theorem rawAll {fd : FuncData} {ps : List Str} (F : FnOk P w K mg base C k f fd ps g) (hb : Binds K fd ps []) : FnR P w K mg base C k f g :=
  (F.raw hb .nil).imp fun vs H Q E h => by show g (vs ++ []) H Q E; rw [List.append_nil]; exact h

/-- a def by its body, where no display is under way -/
theorem okGX {x qual : Str} {st : Stmt} {fd : FuncData} {N ps : List Str} (F : Fun K x qual st f fd) (S : FnScope N ps (defScope st)) (hb : Binds K fd ps []) (len : ∀ vs H Q E, g vs H Q E → vs.length = ps.length)
    (body : ∀ (cdv : Value) (A : Around) (out : List Env) (s : Shared) (H : Hp) (vs : List V) (Q : VK) (E : XK), Room k (A.deeper (envOfC qual (defScope st) s.heap.objs.size f cdv)) → Free (A.deeper (envOfC qual (defScope st) s.heap.objs.size f cdv)) → g vs H Q E →
      ∃ t, PSs (cxOf C P w K mg base N qual (defScope st) f cdv A out s H E) (defBody st) t ∧ t { nx := fun _ H' => Q .non H', rt := Q } (start N vs) H) : FnG P w K mg base C (k + 1) f g := by
  obtain ⟨oc, od, kV, doc, pm, an, cdv, ct, osl, rfl, lk, hcd⟩ := F.ex
  intro A out s H us vs Q E hr hfree e0 r hg
  have hl : vs.length = ps.length := len _ _ _ _ hg
  have kin : K.In s.heap := e0.mod.kin.keeps fun b o e => (e0.bs b o e).1
  have lim : s.heap.NoLimit := e0.mod.nolimit.keeps fun b o e => (e0.bs b o e).1
  have hu : (us ++ []).length = ps.length := by rw [List.append_nil, ← r.length]; exact hl
  have bind0 := hb s us kin hu
  rw [List.append_nil] at bind0
  have hkind : ∀ y ∈ ps.zip us, (defScope st).names.lookup y.1 = some .local ∨ ((defScope st).names.lookup y.1 = some .cell ∧ ((cellsFrom (s.heap.objs.size + 1) (defScope st).names []).lookup y.1).isSome = true) := by
    rintro ⟨n, v⟩ hy
    rcases S.par n (List.of_mem_zip hy).1 with q | q
    · exact .inl q
    · exact .inr ⟨q, PySem.W.cellsFrom_some _ _ _ (.inl q)⟩
  refine codeAny_call_function hr.depth (kin _ _ lk) rfl S.co S.gen rfl (PySem.W.codeRec_of kin hcd) (bind0 _ _ _ _ ?_)
  refine wpAny_newFunctionEnv_cells S.kind hkind fun env he s1 xx => ?_
  subst he
  refine ⟨lim.keeps xx.toInCall.keep, codeAny_func ?_⟩
  obtain ⟨t, ht, hq⟩ := body cdv A out s H vs Q E (hr.deeper _) (free_deeper _ hfree) hg
  have I : Inv (cxOf C P w K mg base N qual (defScope st) f cdv A out s H E) [] (start N vs) H s1 := inv_start S hr.hd e0 hl r xx
  refine wpAny_mono (ht.run [] s1 (start N vs) H _ I hq) (fun fl s' hs => ?_) fun e s' hs => hs
  cases fl with
  | ret u =>
    obtain ⟨v, σ', H', J, rv, q⟩ := hs
    exact ⟨v, H', J.os, J.bare, J.base, J.hok, rv, q⟩
  | next =>
    obtain ⟨σ', H', J, q⟩ := hs
    exact ⟨V.non, H', J.os, J.bare, J.base, J.hok, rfl, q⟩
  | brk =>
    obtain ⟨_, _, _, q⟩ := hs
    exact q.elim
  | cont =>
    obtain ⟨_, _, _, q⟩ := hs
    exact q.elim
/-- the same for a def that nothing leaves -/
theorem okG {x qual : Str} {st : Stmt} {fd : FuncData} {N ps : List Str} (F : Fun K x qual st f fd) (S : FnScope N ps (defScope st)) (hb : Binds K fd ps []) (len : ∀ vs H Q E, g vs H Q E → vs.length = ps.length)
    (body : ∀ (cdv : Value) (A : Around) (out : List Env) (s : Shared) (H : Hp) (vs : List V) (Q : VK) (E : XK), Room k (A.deeper (envOfC qual (defScope st) s.heap.objs.size f cdv)) → Free (A.deeper (envOfC qual (defScope st) s.heap.objs.size f cdv)) → g vs H Q E →
      ∃ t, PSs (cxOf CX0 P w K mg base N qual (defScope st) f cdv A out s H E).nox (defBody st) t ∧ t { nx := fun _ H' => Q .non H', rt := Q } (start N vs) H) : FnG P w K mg base CX0 (k + 1) f g :=
  okGX F S hb len fun cdv A out s H vs Q E h1 h2 h3 => by
    obtain ⟨t, a, b⟩ := body cdv A out s H vs Q E h1 h2 h3
    exact ⟨t, a.nox, b⟩
end

section
variable {X : Cx} {C : CXT} {pins : List (Addr × Obj)} {σ : L2.St} {H : Hp} {s : Shared} {k : Nat} {f : Addr} {g : Sp} {E : XK} {x : Str} {p pos : Pos} {e : Expr} {es : List Expr} {t : TA}
/-- how a callee's end is read by its caller -/
theorem after0 {A : Around} {Q : VK} {us : List Value} {fa : Addr} (hx : Passes C X E) (I : Inv X pins σ H s) (h : codeAny (model X.prog X.w) A (.call (.ref fa) ⟨us, []⟩) (CR C X.stack X.prog X.w H s Q E) s) :
    codeAny (model X.prog X.w) A (.call (.ref fa) ⟨us, []⟩) (fun r s' => match r with | .ok (.ret v) => EP X pins σ Q v s' | .ok _ => False | .error e => X.xe e s') s :=
  codeAny_mono h fun r s' hq => match r, hq with
    | .ok (.ret _), z => I.after z
    | .ok .next, z => z.elim
    | .ok .brk, z => z.elim
    | .ok .cont, z => z.elim
    | .error _, z => hx _ _ _ _ _ _ I z
theorem run_G {Q : VK} {us : List Value} {vs : List V} (F : FnG X.prog X.w X.K X.mg X.base C k f g) (hr : Room k X.A) (fr : Free X.A) (hx : Passes C X E) (I : Inv X pins σ H s) (r : Vals vs us) (h : g vs H Q E) :
    wpAny (model X.prog X.w) X.A (call (.ref f) us) (EP X pins σ Q) X.xe s := wpAny_call (after0 hx I (F X.A X.stack s H us vs Q E hr fr I.env0 r h))
/-- f(e, ..), f a def that wants no display under way -/
theorem pe_callG (F : FnG X.prog X.w X.K X.mg X.base C k f g) (hr : Room k X.A) (fr : Free X.A) (hg : Gl X x) (hm : X.mg x = some (.ref f)) (hk : PySem.W.keepIn X.K (.ref f) = true) (hx : Passes C X E) (ha : PA X (e :: es) t)
    (hdb : (x == ("__debug__" : Str)) = false := by decide) (he : starEach (e :: es) X.env = (false, eval e X.env) :: starEach es X.env := by rfl) (hpl : (backTo pos (starEach es X.env)).any (·.1) = false := by rfl) :
    PE X (.Call (.Name x p) (e :: es) [] pos) (tCall g [] E t) := by
  constructor
  intro pins s σ H Q I h
  apply wpAny_Call_Name_kw
  refine ld_glob I hg hm ?_ hdb
  refine PySem.W.callWith_K (h₀ := X.base) I.ok.mod.kin hk (thn (ha.run pos pins s σ H _ I h) ?_) he hpl
  rintro us s1 ⟨vs, H1, I1, r, q⟩
  refine ⟨I1.kIn, run_G F hr fr hx I1 r ?_⟩
  have q' : g (vs ++ []) H1 Q E := q
  rw [List.append_nil] at q'
  exact q'
/-- f(e, ..), f a def whose arguments are all given -/
theorem pe_callR (F : FnR X.prog X.w X.K X.mg X.base C k f g) (hr : Room k X.A) (hg : Gl X x) (hm : X.mg x = some (.ref f)) (hk : PySem.W.keepIn X.K (.ref f) = true) (hx : Passes C X E) (ha : PA X (e :: es) t)
    (hdb : (x == ("__debug__" : Str)) = false := by decide) (he : starEach (e :: es) X.env = (false, eval e X.env) :: starEach es X.env := by rfl) (hpl : (backTo pos (starEach es X.env)).any (·.1) = false := by rfl) :
    PE X (.Call (.Name x p) (e :: es) [] pos) (tCall g [] E t) := by
  constructor
  intro pins s σ H Q I h
  apply wpAny_Call_Name_kw
  refine ld_glob I hg hm ?_ hdb
  refine PySem.W.callWith_K (h₀ := X.base) I.ok.mod.kin hk (thn (ha.run pos pins s σ H _ I h) ?_) he hpl
  rintro us s1 ⟨vs, H1, I1, r, q⟩
  refine ⟨I1.kIn, wpAny_call (run_fnR F hr hx I1 r ?_)⟩
  have q' : g (vs ++ []) H1 Q E := q
  rw [List.append_nil] at q'
  exact q'
end
end RR
set_option maxHeartbeats 4000000
namespace RR
open PySem PySem.Spec PyProof.Rows L2

/-- an int, or an instance of the class at C -/
def IntOr (C : Addr) (H : Hp) (y : V) : Prop := (∃ i, y = .int i) ∨ ∃ b dx fs, y = .ref b ∧ H b = some (.ins C dx fs)

/-- what the text says of the class at C and one of its operators -/
structure BinOf (K : PySem.W.Frag) (C : Addr) (op : Operator) (f : Addr) (rc fo ro : Option Value) : Prop where
  sf : PySem.W.selfFirst K C = true
  hs : PySem.W.findIn K (.ref C) (PySem.dunder op.info.2) = some (some (.ref f))
  hf : PySem.W.isFn K (.ref f) = true
  hr : PySem.W.findIn K (.ref C) (dunderR op.info.2) = some rc
  hp : rc = none ∨ ∃ q : Addr, rc = some (.ref q)
  h1 : PySem.W.findIn K (.type "int") (PySem.dunder op.info.2) = some fo
  h2 : PySem.W.findIn K (.type "int") (dunderR op.info.2) = some ro
  sub : PySem.W.subIn K (.type "int") (.ref C) = some false

section
variable {X : Cx} {CX : CXT} {pins : List (Addr × Obj)} {σ : L2.St} {H : Hp} {s : Shared} {C f : Addr} {n : Nat} {g : Sp} {E : XK} {op : Operator} {rc fo ro : Option Value}

/-- x op y, x an instance of the class, y an int or another one: the method's promise -/
def rOpL (C : Addr) (g : Sp) (E : XK) : R2 := fun x y H Q => (∃ a dx fs, x = .ref a ∧ H a = some (.ins C dx fs)) ∧ IntOr C H y ∧ g [x, y] H Q E
/-- -x, x an instance -/
def rNegO (C : Addr) (g : Sp) (E : XK) : V → Hp → VK → Prop := fun x H Q => (∃ a dx fs, x = .ref a ∧ H a = some (.ins C dx fs)) ∧ g [x] H Q E
end
end RR
set_option maxHeartbeats 4000000
namespace RR
open PySem PySem.Spec PyProof.Rows L2

/-- the int's own method declines an instance -/
def Declines (op : Operator) : Prop := ∃ (id : String) (B : Builtin), Slot "int" (PySem.dunder op.info.2) id ∧ entryFor table id = some B ∧ (∀ a b, argsOk id ⟨[a, b], []⟩) ∧
  ∀ (a : Int) (t : Tok) (l C dx : Addr), Meets (B ⟨[.int a t, .ref l], []⟩) (fun _ R s => s.heap.get? l = some (PySem.W.instObj C dx) ∧ R (.ok (.ret Value.notImplemented)) s)
/-- what the text says of the class at C and one of its reflected operators (f: the plain one, r: the reflected one) -/
structure RefOf (K : PySem.W.Frag) (C : Addr) (op : Operator) (f r : Addr) (fo ro : Option Value) : Prop where
  sf : PySem.W.selfFirst K C = true
  hs : PySem.W.findIn K (.ref C) (PySem.dunder op.info.2) = some (some (.ref f))
  hr : PySem.W.findIn K (.ref C) (dunderR op.info.2) = some (some (.ref r))
  hf : PySem.W.isFn K (.ref r) = true
  h1 : PySem.W.findIn K (.type "int") (PySem.dunder op.info.2) = some fo
  h2 : PySem.W.findIn K (.type "int") (dunderR op.info.2) = some ro
  full : ((fo.isSome && !isSeqSlot fo) || (ro.isSome && !isSeqSlot ro)) = true
  sub : PySem.W.subIn K (.ref C) (.type "int") = some false

section
variable {prog : Program} {w : World} {A : Around} {Er : Value → Shared → Prop} {s : Shared} {K : PySem.W.Frag} {x C dx f r : Addr} {od : Option Obj} {op : Operator} {fo ro : Option Value} {i : Int} {t : Tok}
end
end RR
set_option maxHeartbeats 4000000
namespace RR
open PySem PySem.Spec PyProof.Rows L2

/-- no in-place method of the class, nor of object -/
structure NoI (K : PySem.W.Frag) (C : Addr) (op : Operator) : Prop where
  mro : (PySem.W.clsIn K C).any (fun cd => cd.mro == [.ref C, .type "object"]) = true
  c : PySem.W.findIn K (.ref C) (dunderI op.info.2) = some none
  o : PySem.W.findIn K (.type "object") (dunderI op.info.2) = some none
  i : PySem.W.findIn K (.type "int") (dunderI op.info.2) = some none

section
variable {prog : Program} {w : World} {A : Around} {Er : Value → Shared → Prop} {s : Shared} {K : PySem.W.Frag} {x C dx f : Addr} {od : Option Obj} {op : Operator} {rc fo ro : Option Value} {b : Value}
end
end RR
set_option maxHeartbeats 4000000
namespace RR
open PySem PySem.Spec PyProof.Rows L2

section
variable {X : Cx} {CX : CXT} {pins : List (Addr × Obj)} {σ : L2.St} {H : Hp} {s : Shared} {C f r : Addr} {n : Nat} {g g' : Sp} {E : XK} {op : Operator} {rc fo ro : Option Value}

/-- i op y, i an int, y an instance: the reflected method's promise -/
def rOpR (C : Addr) (g : Sp) (E : XK) : R2 := fun x y H Q => (∃ i, x = .int i) ∧ (∃ a dx fs, y = .ref a ∧ H a = some (.ins C dx fs)) ∧ g [y, x] H Q E
/-- x op= y where the class has no in-place method: as x op y -/
def rOpI (C : Addr) (g g' : Sp) (E : XK) : TIp := fun x y H Q => rOpL C g E x y H Q ∨ rOpR C g' E x y H Q
/-- abs(x), x an instance -/
def rAbsO (C : Addr) (g : Sp) (E : XK) : List V → Hp → VK → Prop := fun xs H Q => (∃ a dx fs, xs = [.ref a] ∧ H a = some (.ins C dx fs)) ∧ g xs H Q E
end
end RR
set_option maxHeartbeats 4000000
namespace RR
open PySem PySem.Spec PyProof.Rows L2

/-- C.m is a static method: its record at p, its def at g -/
structure SMet (K : PySem.W.Frag) (C : Addr) (mc : Value) (m : Str) (p g : Addr) : Prop where
  ty : PySem.W.typeIn K (.ref C) = some mc
  rd : PySem.W.readsIn K C mc = true
  ga : PySem.W.specialIn K (.ref C) "__getattribute__" = some (some (.builtin "type.__getattribute__"))
  at_ : PySem.W.findCls K (.ref C) mc m = some (.get (.builtin "staticmethod.__get__") (.ref p) .none (.ref C))
  rc : ∃ rest, PySem.W.recIn K p "staticmethod" = some (.ref g :: rest)
  kp : PySem.W.keepIn K (.ref g) = true

/-- C.m(e, ..) -/
def tSMeth (C : Addr) (g : Sp) (E : XK) (ta : TE) (t : TA) : TE := fun σ H Q => ta σ H fun x H1 => x = .ref C ∧ t σ H1 fun vs H2 => g vs H2 Q E
section
variable {X : Cx} {CX : CXT} {k : Nat} {C p f : Addr} {mc : Value} {g : Sp} {E : XK} {o e : Expr} {es : List Expr} {m : Str} {pos apos : Pos} {ta : TE} {t : TA} {pl : Sem Bool}
theorem smeth_get {pins : List (Addr × Obj)} {σ : L2.St} {H : Hp} {s : Shared} {Q : Value × List Value → Shared → Prop} {A : Around} {Er : Value → Shared → Prop} (I : Inv X pins σ H s) (T : SMet X.K C mc m p f)
    (h : ∀ s', Inv X pins σ H s' → Q (.ref f, []) s') : wpAny (model X.prog X.w) A (getMethod (.ref C) m pl) Q Er s := by
  obtain ⟨rest, hp⟩ := T.rc
  obtain ⟨mm, fr⟩ := I.fr
  exact PySem.W.method_of_cls fr I.ok.mod.kin T.ga (PySem.W.cls_sm fr I.ok.mod.kin T.ty T.rd T.at_ hp rfl (h _ (I.tok _)))
theorem pe_smeth (he : PE X o ta) (T : SMet X.K C mc m p f) (F : FnR X.prog X.w X.K X.mg X.base CX k f g) (hr : Room k X.A) (hx : Passes CX X E) (ha : PA X (e :: es) t)
    (hst : starEach (e :: es) X.env = (false, eval e X.env) :: starEach es X.env := by rfl) (hpl : (backTo pos (starEach es X.env)).any (·.1) = false := by rfl)
    (ht : eval (.Call (.Attribute o m apos) (e :: es) [] pos) X.env = (do
      let ov ← eval o X.env; standAt apos.atName; let (f, first) ← holding [ov] (getMethod ov m pl)
      callWith pos f first (backTo pos (starEach (e :: es) X.env)) (backToKw pos (keywordEach [] X.env))) := by rfl) :
    PE X (.Call (.Attribute o m apos) (e :: es) [] pos) (tSMeth C g E ta t) := by
  constructor
  intro pins s σ H Q I h
  refine PySem.W.methodCall_KW (pl := pl) (thn (he.run pins s σ H _ I h) ?_) ht
  rintro u s1 ⟨x, H1, I1, rx, rfl, q⟩
  obtain rfl : u = .ref C := rx
  refine smeth_get I1 T fun s2 I2 => ?_
  refine PySem.W.callWith_K (first := []) (h₀ := X.base) I2.ok.mod.kin T.kp (thn (ha.run pos pins s2 σ H1 _ I2 q) ?_) hst hpl
  rintro us s3 ⟨vs, H2, I3, rv, q2⟩
  exact ⟨I3.kIn, wpAny_call (run_fnR F hr hx I3 rv q2)⟩
theorem pe_smeth0 (he : PE X o ta) (T : SMet X.K C mc m p f) (F : FnR X.prog X.w X.K X.mg X.base CX k f g) (hr : Room k X.A) (hx : Passes CX X E)
    (ht : eval (.Call (.Attribute o m apos) [] [] pos) X.env = (do
      let ov ← eval o X.env; standAt apos.atName; let (f, first) ← holding [ov] (getMethod ov m pl)
      callWith pos f first (backTo pos (starEach [] X.env)) (backToKw pos (keywordEach [] X.env))) := by rfl) :
    PE X (.Call (.Attribute o m apos) [] [] pos) (tSMeth C g E ta tNil) := by
  constructor
  intro pins s σ H Q I h
  refine PySem.W.methodCall_KW (pl := pl) (thn (he.run pins s σ H _ I h) ?_) ht
  rintro u s1 ⟨x, H1, I1, rx, rfl, q⟩
  obtain rfl : u = .ref C := rx
  refine smeth_get I1 T fun s2 I2 => ?_
  exact PySem.W.callWith_K0 (first := []) I2.kIn T.kp (wpAny_call (run_fnR (us := []) (vs := []) F hr hx I2 .nil q))

/-- repr(x), x a list or tuple of data -/
def rRepr (K : PySem.W.Frag) : List V → Hp → VK → Prop := fun xs H Q => ∃ a d, xs = [.ref a] ∧ Dp K H (.ref a) d ∧ d.showable = true ∧ d.hasDict = false ∧ d.depth ≤ 20 ∧ d.shown.length ≤ sizeLine ∧ Q (.str d.shown) H
theorem call_repr (hu : X.A.units + 64 < cLine) (fr : Free X.A) : CallR X (.builtin "repr") (rRepr X.K) := by
  intro pins s σ H xs us Q I rv h
  obtain ⟨a, d, rfl, hd, hs, hnd, hdep, hl, q⟩ := h
  obtain ⟨u, rfl, ru⟩ := rv.one
  obtain rfl : u = .ref a := ru
  obtain ⟨as, hr⟩ := Dp.reads I d _ _ hd (show RelV (.ref a) (.ref a) from rfl)
  refine repr_of_reads' hr hs (PyData.noDict_hsm hnd) fr (by omega) (fun _ _ e => e) (fun h' u tk hk => ?_) hl
  exact ⟨.str d.shown, H, I.kept (t' := tk) hk, ⟨u, rfl⟩, q⟩

/-- the text of a tuple of two ints -/
def ii (a b : Int) : PyData := .tuple [.int a, .int b]
/-- repr((i, j)), the tuple tracked -/
def rReprII (K : PySem.W.Frag) : List V → Hp → VK → Prop := fun xs H Q => ∃ p a b, xs = [.ref p] ∧ SqT K H p [.int a, .int b] ∧ a.natAbs < 2 ^ 1900 ∧ b.natAbs < 2 ^ 1900 ∧ Q (.str (ii a b).shown) H
theorem log_of {n : Nat} (h : n < 2 ^ 1900) : n.log2 < 1920 := by
  have := PySem.Flt.log2_lt_of (by decide : 0 < 1900) h
  omega
end
end RR
set_option maxHeartbeats 2000000
namespace RR
open PySem PySem.Spec PyProof.Rows L2

/-- the heap behind the top, with the script alone tracked (or nothing, where the script is one of the text's own lists) -/
def hpOf (a : Addr) (vs : List Value) (ns : List Int) (own : Bool) : Hp := fun b => if own = false ∧ b = a then some (.frz { cls := .type "list", data := .seq vs.toArray } (.lst (ns.map V.int))) else none
theorem hp_at (a : Addr) (vs : List Value) (ns : List Int) : hpOf a vs ns false a = some (.frz { cls := .type "list", data := .seq vs.toArray } (.lst (ns.map V.int))) := if_pos ⟨rfl, rfl⟩
theorem hp_off {a b : Addr} {vs : List Value} {ns : List Int} {o : Bool} (h : b ≠ a) : hpOf a vs ns o b = none := if_neg fun z => h z.2
theorem hp_only {a b : Addr} {vs : List Value} {ns : List Int} {o : Bool} {u : HO} (h : hpOf a vs ns o b = some u) : b = a ∧ o = false ∧ u = .frz { cls := .type "list", data := .seq vs.toArray } (.lst (ns.map V.int)) := by
  by_cases hb : o = false ∧ b = a
  · have z := (if_pos hb).symm.trans h
    exact ⟨hb.2, hb.1, (Option.some.inj z).symm⟩
  · have z := (if_neg hb).symm.trans h
    cases z

/-- the law's own call, from its promise where no display is under way -/
theorem lawG {P : Program} {w : World} {K : PySem.W.Frag} {mg mb : Str → Option Value} {k : Nat} {fa a : Addr} {g : Sp} {s : Shared} {vs : List Value} {ns : List Int}
    (kin : K.In s.heap) (hns : s.heap.Ns mainGlobals mg) (hb : s.heap.Ns builtinsNs mb) (hbb : ∀ x : Str, x ≠ "__name__" → mb x = bootBuiltins x) (lim : s.heap.NoLimit) (hgen : s.gens = #[])
    (ha : s.heap.get? a = some { cls := .type "list", data := .seq vs.toArray }) (hi : IntsAre vs ns) (hl : ns.length ≤ sizeLine) (hr : Room k callerA)
    (F : ∀ base : Heap, K.In base → base.Ns mainGlobals mg → FnG P w K mg base CX0 k fa g)
    (sp : ∀ H : Hp, SqL K H a (ns.map V.int) → g [.ref a] H (fun v _ => v = .bl true) E0) :
    codeAny (model P w) callerA (.call (.ref fa) ⟨[.ref a], []⟩) (fun r s' => r = .ok (.ret (.bool true)) ∧ OldK s.heap s'.heap ∧ s'.os = s.os ∧ AllBare s'.gens) s := by
  have rv := vals_ints hi
  have main : ∀ o : Bool, (o = true → ∃ ob, K.lookup a = some ob) → (o = false → K.lookup a = none) →
      codeAny (model P w) callerA (.call (.ref fa) ⟨[.ref a], []⟩) (fun r s' => r = .ok (.ret (.bool true)) ∧ OldK s.heap s'.heap ∧ s'.os = s.os ∧ AllBare s'.gens) s := by
    intro o h1 h0
    have hok : HOk P w (hpOf a vs ns o) s.heap := fun b u z => by
      obtain ⟨rfl, -, rfl⟩ := hp_only z
      exact ⟨ha, by rw [List.length_map]; exact hl, vs, _, rv, ha⟩
    have seq : SqL K (hpOf a vs ns o) a (ns.map V.int) := by
      cases o with
      | false => exact .inl (.inr ⟨_, hp_at a vs ns⟩)
      | true =>
        obtain ⟨ob, e⟩ := h1 rfl
        have e2 := kin a ob e
        rw [ha] at e2
        cases e2
        exact .inr ⟨_, vs.toArray, _, e, rfl, rfl, rfl, by rw [List.size_toArray, hi.length]; exact hl, by simpa using rv⟩
    have keepH : ∀ {b : Addr} {ob : Obj}, s.heap.get? b = some ob → hpOf a vs ns o b = none → (hidT s.heap (hpOf a vs ns o)).get? b = some ob := fun e n => hidT_get e n
    have off : ∀ {b : Addr} {ob : Obj} {es : Array DictEntry} {ep : Nat}, s.heap.get? b = some ob → ob.data = .dict es ep → hpOf a vs ns o b = none := by
      intro b ob es ep e d
      refine hp_off fun z => ?_
      rw [z, ha] at e
      cases e
      cases (show Data.seq vs.toArray _ = Data.dict es ep from d)
    have nsH : ∀ {b : Addr} {m : Str → Option Value}, s.heap.Ns b m → (hidT s.heap (hpOf a vs ns o)).Ns b m := by
      rintro b m ⟨ob, es, ep, e, d, r⟩
      exact ⟨ob, es, ep, keepH e (off e d), d, r⟩
    have kinH : K.In (hidT s.heap (hpOf a vs ns o)) := fun b ob e => keepH (kin b ob e) (by
      cases q : hpOf a vs ns o b with
      | none => rfl
      | some u =>
        obtain ⟨rfl, z, -⟩ := hp_only q
        rw [h0 z] at e
        cases e)
    have md : Mod K mg (hidT s.heap (hpOf a vs ns o)) := ⟨kinH, nsH hns, ⟨mb, nsH hb, hbb⟩, by
      obtain ⟨mc, y1, y2⟩ := lim
      exact ⟨mc, nsH y1, y2⟩⟩
    have e0 : Env0 P w K mg (hidT s.heap (hpOf a vs ns o)) callerA [] s (hpOf a vs ns o) :=
      { frames := rfl, mod := md, bs := fun b ob e => of_hidT e, bsz := Nat.le_of_eq (hidT_size _ _), funs := trivial, frf := fun b z => absurd (show b ∈ ([] : List Addr) from z) (by simp), hok := hok, bare := .of_eq hgen }
    have z := F _ kinH (nsH hns) callerA [] s (hpOf a vs ns o) [.ref a] [.ref a] _ E0 hr rfl e0 (.cons rfl .nil) (sp _ seq)
    refine codeAny_mono z fun r s' h => ?_
    match r, h with
    | .error _, h => exact (show False from h).elim
    | .ok .next, h => exact h.elim
    | .ok .brk, h => exact h.elim
    | .ok .cont, h => exact h.elim
    | .ok (.ret u), h =>
      obtain ⟨v, H', os, bare, un, hok', r', q⟩ := h
      cases (show v = .bl true from q)
      cases (show u = Value.bool true from r')
      refine ⟨rfl, OldK.of_keep fun b ob e => ?_, os, bare⟩
      cases q2 : hpOf a vs ns o b with
      | none => exact un.keep b ob e q2 (fun z => absurd (show b ∈ ([] : List Addr) from z) (by simp)) (by simp)
      | some u =>
        obtain ⟨rfl, -, rfl⟩ := hp_only q2
        have y := (hok' b _ (un.frzs b _ _ q2)).1
        rw [ha] at e
        cases e
        exact y
  cases hk : K.lookup a with
  | some ob => exact main true (fun _ => ⟨ob, hk⟩) fun z => by cases z
  | none => exact main false (fun z => by cases z) fun _ => hk

/-- the goal that k_head leaves, from the law's promise -/
theorem walkG {l : PySem.W.OpenLaw} {n k : Nat} {q : Program} {loose : List Str} {XP : (Str → Option Value) → Heap → Prop} {YP : World → Heap → Prop} {d : DefRec} {K : Params → PySem.W.Frag} {g : PySem.W.Frag → Sp}
    (hn : l.most = some n) (hn2 : n ≤ sizeLine) (hdf : d.params.defaults = []) (hr : Room k callerA) (hY : ∀ (w : World) (h : Heap), YP w h → (K w.params).In h)
    (F : ∀ (w : World) (mg : Str → Option Value) (fa : Addr) (h : Heap), (K w.params).In h → h.Ns mainGlobals mg → mg d.name = some (.ref fa) →
      ∀ base : Heap, (K w.params).In base → base.Ns mainGlobals mg → FnG l.prog w (K w.params) mg base CX0 k fa (g (K w.params)))
    (sp : ∀ (K : PySem.W.Frag) (H : Hp) (a : Addr) (ns : List Int), ns.length ≤ n → SqL K H a (ns.map V.int) → g K [.ref a] H (fun v _ => v = .bl true) E0) :
    PySem.W.WalkO q loose XP YP l.row.toRowW d [] (fun f vs => PySem.call f vs) := by
  refine Att.attach_call hn hdf fun w s0 s mg mb fa o pm cd doc a vs ns G Y ho hd hcd hmg hobj hints hlen hg => ?_
  have kin := hY w _ Y
  exact lawG kin G.T.g G.T.b G.T.builtins G.T.nolimit hg hobj hints (Nat.le_trans hlen hn2) hr (F w mg fa _ kin G.T.g hmg) fun H hS => sp _ H a ns hlen hS
end RR
set_option maxHeartbeats 4000000
namespace RR
open PySem PySem.Spec PyProof.Rows L2

theorem hp_new {H : Hp} {a b : Addr} {o u : HO} (h : H b = some u) (n : H a = none) : upd H a o b = some u := by rw [upd_ne (ne_of_none h n)]; exact h
theorem hp_mut {H : Hp} {a b : Addr} {o u : HO} (h : H b = some u) (n : b ≠ a) : upd H a o b = some u := by rw [upd_ne n]; exact h
/-! ### data -/
theorem dp_ints {K : PySem.W.Frag} {H : Hp} : ∀ ns : List Int, DpAll K H (ns.map V.int) (ns.map PyData.int)
  | [] => .nil
  | n :: r => .cons (.int n) (dp_ints r)
theorem lay_ints : ∀ ns : List Int, PyData.canLayAll0 (ns.map PyData.int) = true
  | [] => rfl
  | n :: r => by show (true && PyData.canLayAll0 (r.map PyData.int)) = true; rw [lay_ints r]; rfl
theorem dep_ints : ∀ ns : List Int, PyData.depthAll (ns.map PyData.int) = 0
  | [] => rfl
  | n :: r => by show max 0 (PyData.depthAll (r.map PyData.int)) = 0; rw [dep_ints r]; rfl
theorem shaped_ints (ns : List Int) : SeqAt.shaped (.list (ns.map PyData.int)) = true := by
  unfold SeqAt.shaped
  rw [Bool.and_eq_true]
  refine ⟨lay_ints ns, ?_⟩
  show decide (PyData.depthAll (ns.map PyData.int) + 1 ≤ 64) = true
  rw [dep_ints]
  rfl
theorem eqv_nil (ns : List Int) : PyData.eqv (.list (ns.map PyData.int)) (.list []) = ns.isEmpty := by
  cases ns with
  | nil => simp only [List.map_nil, PyData.eqv, PyData.eqvAll, List.isEmpty_nil]
  | cons n r => simp only [List.map_cons, PyData.eqv, PyData.eqvAll, List.isEmpty_cons]

/-! ### numbers -/
theorem fmod_lo {a m : Int} (h : 0 < m) : 0 ≤ a.fmod m := by rw [Int.fmod_eq_emod_of_nonneg a (Int.le_of_lt h)]; exact Int.emod_nonneg a (Int.ne_of_gt h)
theorem fmod_hi {a m : Int} (h : 0 < m) : a.fmod m < m := by rw [Int.fmod_eq_emod_of_nonneg a (Int.le_of_lt h)]; exact Int.emod_lt_of_pos a h
theorem len_pos {ns : List Int} (h : (!ns.isEmpty) = true) : 0 < ((ns.map V.int).length : Int) := by
  cases ns with
  | nil => cases h
  | cons n r => rw [List.length_map]; show (0 : Int) < ((r.length + 1 : Nat) : Int); omega
theorem pow3_b {b a x y z : Int} (b0 : 0 ≤ b) (b1 : b < 2147483648) (a0 : 0 ≤ a) (a1 : a ≤ 100000) (x0 : 0 ≤ x) (x1 : x < 1000) (y0 : 0 ≤ y) (y1 : y < 100000) (z0 : 0 ≤ z) (z1 : z < 1000) : (b * (2 * a + x) + y * a * a + z).natAbs < 2 ^ 64 := by
  have e1 : 0 ≤ b * (2 * a + x) := Int.mul_nonneg b0 (by omega)
  have e2 : b * (2 * a + x) ≤ 2147483648 * 201000 := Int.mul_le_mul (by omega) (by omega) (by omega) (by omega)
  have e3 : 0 ≤ y * a := Int.mul_nonneg y0 a0
  have e4 : y * a ≤ 100000 * 100000 := Int.mul_le_mul (by omega) (by omega) (by omega) (by omega)
  have e5 : 0 ≤ y * a * a := Int.mul_nonneg e3 a0
  have e6 : y * a * a ≤ (100000 * 100000) * 100000 := Int.mul_le_mul e4 (by omega) (by omega) (by omega)
  omega
theorem at_map {ns : List Int} {i : Int} (h0 : 0 ≤ i) (h1' : i < ((ns.map V.int).length : Int)) : ∃ n, n ∈ ns ∧ atI (ns.map V.int) i = some (.int n) := by
  have h1 : i < (ns.length : Int) := by rw [List.length_map] at h1'; exact h1'
  obtain ⟨k, rfl⟩ := Int.eq_ofNat_of_zero_le h0
  have hk : k < ns.length := by omega
  refine ⟨ns[k], List.getElem_mem hk, ?_⟩
  unfold atI ixN
  rw [List.length_map, if_pos h0, if_pos h1]
  show (ns.map V.int)[(k : Int).toNat]? = _
  rw [Int.toNat_natCast, List.getElem?_map, List.getElem?_eq_getElem hk]
  rfl
theorem at_some {xs : List V} {i : Int} (h0 : 0 ≤ i) (h1 : i < xs.length) : ∃ x, x ∈ xs ∧ atI xs i = some x := by
  obtain ⟨k, rfl⟩ := Int.eq_ofNat_of_zero_le h0
  have hk : k < xs.length := by omega
  refine ⟨xs[k], List.getElem_mem hk, ?_⟩
  unfold atI ixN
  rw [if_pos h0, if_pos h1]
  show xs[(k : Int).toNat]? = _
  rw [Int.toNat_natCast, List.getElem?_eq_getElem hk]

/-! ### the pen -/
/-- the pen: its cells, the index of the next one, what is left of a great one -/
def pen (c : Addr) (a g : Int) : HO := .lst [.ref c, .int a, .int g]
structure PenAt (H : Hp) (p c : Addr) (ns : List Int) (a g : Int) : Prop where
  pn : H p = some (.lst [.ref c, .int a, .int g])
  cs : H c = some (.lst (ns.map V.int))
  la : 0 ≤ a
  lb : a ≤ 100000
  ln : ns.length ≤ 63
theorem PenAt.ne {H : Hp} {p c : Addr} {ns : List Int} {a g : Int} (W : PenAt H p c ns a g) : c ≠ p := by
  refine ne_of W.cs W.pn fun z => ?_
  have z' := HO.lst.inj z
  cases ns with
  | nil => cases z'
  | cons n r => cases (List.cons.inj z').1
/-- all that was tracked stands as it was, but p -/
def Keep (p : Addr) (H H' : Hp) : Prop := ∀ b o, H b = some o → b ≠ p → H' b = some o
theorem Keep.trans {p : Addr} {H H1 H2 : Hp} (a : Keep p H H1) (b : Keep p H1 H2) : Keep p H H2 := fun x o h n => b x o (a x o h n) n
theorem Keep.of {p : Addr} {H H' : Hp} (a : Same H H') : Keep p H H' := fun x o h _ => a x o h
/-- the pen behind a draw -/
theorem PenAt.next {H H' : Hp} {p c : Addr} {ns : List Int} {a g a' g' : Int} (W : PenAt H p c ns a g) (h0 : a ≤ a') (h1 : a' ≤ 100000) (hp : H' p = some (pen c a' g')) (k : Keep p H H') : PenAt H' p c ns a' g' :=
  ⟨hp, k _ _ W.cs W.ne, Int.le_trans W.la h0, h1, W.ln⟩
theorem PenAt.keep {H H' : Hp} {p c : Addr} {ns : List Int} {a g : Int} (W : PenAt H p c ns a g) (k : Same H H') : PenAt H' p c ns a g := ⟨k _ _ W.pn, k _ _ W.cs, W.la, W.lb, W.ln⟩
def spDraw : Sp := fun vs H Q _ => ∃ p c ns a g m, vs = [.ref p, .int m] ∧ 0 < m ∧ m < 1000000 ∧ PenAt H p c ns a g ∧ ∀ d a' g' H', H' p = some (pen c a' g') → Keep p H H' → 0 ≤ d → d < m → a ≤ a' → a' ≤ a + 1 → Q (.int d) H'
/-- one of some things -/
def spPick (K : PySem.W.Frag) : Sp := fun vs H Q _ => ∃ p q c ns a g xs, vs = [.ref p, .ref q] ∧ PenAt H p c ns a g ∧ H q = some (.lst xs) ∧ q ≠ p ∧ 0 < xs.length ∧ xs.length < 1000 ∧
  ∀ x a' g' H', H' p = some (pen c a' g') → Keep p H H' → x ∈ xs → a ≤ a' → a' ≤ a + 1 → Q x H'
def spPen (K : PySem.W.Frag) : Sp := fun vs H Q _ => ∃ (a : Addr) (ns : List Int), vs = [.ref a] ∧ SqL K H a (ns.map V.int) ∧ ns.length ≤ 63 ∧ ∀ p c H', Same H H' → H p = none → H c = none → PenAt H' p c ns 0 0 → Q (.ref p) H'
end RR
namespace RR
open PySem PySem.Spec PyProof.Rows L2
section
variable {X : Cx}
/-- a % m, of which the bounds alone are told -/
def rModL : R2 := fun x y H Q => ∃ i j, x = .int i ∧ y = .int j ∧ 0 < j ∧ ∀ r, 0 ≤ r → r < j → Q (.int r) H
theorem op_modL : OpR X (binaryOp .Mod) rModL := by
  intro pins s σ H x y v u Q I rx ry h
  obtain ⟨i, j, rfl, rfl, hj, q⟩ := h
  exact op_modN pins s σ H _ _ v u Q I rx ry ⟨i, j, rfl, rfl, Int.ne_of_gt hj, q _ (fmod_lo hj) (fmod_hi hj)⟩
/-- a // m, a ** n, of which nothing is told -/
def rDivL : R2 := fun x y H Q => ∃ i j, x = .int i ∧ y = .int j ∧ (j ≠ 0 ∧ j.natAbs < 1073741824) ∧ ∀ r, Q (.int r) H
theorem op_divL : OpR X (binaryOp .FloorDiv) rDivL := by
  intro pins s σ H x y v u Q I rx ry h
  obtain ⟨i, j, rfl, rfl, hj, q⟩ := h
  exact op_fdivN pins s σ H _ _ v u Q I rx ry ⟨i, j, rfl, rfl, hj, q _⟩
def rPowL : R2 := fun x y H Q => ∃ i j, x = .int i ∧ y = .int j ∧ CPow i j ∧ ∀ r, Q (.int r) H
theorem op_powL : OpR X (binaryOp .Pow) rPowL := by
  intro pins s σ H x y v u Q I rx ry h
  obtain ⟨i, j, rfl, rfl, hj, q⟩ := h
  exact op_pow pins s σ H _ _ v u Q I rx ry ⟨i, j, rfl, rfl, hj, q _⟩
/-- c * a, c a small number that is written, or known to be small -/
def rMulL : R2 := fun x y H Q => ∃ i j, x = .int i ∧ y = .int j ∧ (-18446744073709551616 < i ∧ i < 18446744073709551616) ∧ Q (.int (i * j)) H
theorem op_mulL : OpR X (binaryOp .Mult) rMulL := by
  intro pins s σ H x y v u Q I rx ry h
  obtain ⟨i, j, rfl, rfl, hj, q⟩ := h
  exact op_mul pins s σ H _ _ v u Q I rx ry ⟨i, j, rfl, rfl, .inl hj, q⟩
end
end RR
set_option maxHeartbeats 4000000
namespace RR
open PySem PySem.Spec PyProof.Rows L2

/-! ### fractions -/
def gd (t b : Int) : Int := ((Nat.gcd t.natAbs b.natAbs : Nat) : Int)
/-- a fraction in lowest terms -/
def lo (t b : Int) : Int := t / gd t b
def lb (t b : Int) : Int := b / gd t b
/-- in lowest terms -/
def Low (t b : Int) : Prop := 0 < b ∧ gd t b = 1
/-- a number that the programs reckon with -/
abbrev Sm (n : Nat) (i : Int) : Prop := i.natAbs < 2 ^ n
theorem sm_mono {m n : Nat} {i : Int} (h : Sm m i) (l : m ≤ n) : Sm n i := Nat.lt_of_lt_of_le h (Nat.pow_le_pow_right (by decide) l)
/-! ### a Ratio -/
def rfs (t b : Int) : List (Str × V) := [("top", .int t), ("bottom", .int b)]
def RatAt (C : Addr) (H : Hp) (x : Addr) (t b : Int) : Prop := ∃ dx, H x = some (.ins C dx (rfs t b))
/-- a Ratio, or an int that stands for one -/
def NumV (C : Addr) (H : Hp) (v : V) (t b : Int) : Prop := (∃ a, v = .ref a ∧ RatAt C H a t b) ∨ (v = .int t ∧ b = 1)
/-- what a new Ratio is -/
abbrev NewR (C : Addr) (H : Hp) (Q : VK) (t b : Int) : Prop := ∀ a H', Same H H' → RatAt C H' a t b → Q (.ref a) H'
def spInit (C : Addr) : Sp := fun vs H Q _ => ∃ x dx t b, vs = [.ref x, .int t, .int b] ∧ H x = some (.ins C dx []) ∧ 0 < b ∧ Sm 5000 t ∧ Sm 5000 b ∧ Q .non (upd (upd H x (.ins C dx [("top", .int (lo t b))])) x (.ins C dx (rfs (lo t b) (lb t b))))
def spIsInt : Sp := fun vs H Q _ => ∃ i, vs = [.int i] ∧ Q (.bl true) H
def spOf (C : Addr) : Sp := fun vs H Q _ => ∃ v t b, vs = [v] ∧ NumV C H v t b ∧ Sm 5000 t ∧ NewR C H Q t b
def spEndless (C : Addr) : Sp := fun vs H Q _ => ∃ x t b, vs = [.ref x] ∧ RatAt C H x t b ∧ Q (.bl (decide (b = 0))) H
/-- x op y: F and G reckon with both fractions -/
def spBin (C : Addr) (F G : Int → Int → Int → Int → Int) : Sp := fun vs H Q _ => ∃ x y t b u d, vs = [.ref x, y] ∧ RatAt C H x t b ∧ NumV C H y u d ∧ 0 < b ∧ 0 < d ∧ Sm 1000 t ∧ Sm 1000 b ∧ Sm 1000 u ∧ Sm 1000 d ∧ NewR C H Q (lo (F t b u d) (G t b u d)) (lb (F t b u d) (G t b u d))
def fAdd (t b u d : Int) : Int := t * d + u * b
def fSub (t b u d : Int) : Int := t * d - u * b
def fRsub (t b u d : Int) : Int := u * b - t * d
def fMul (t b u d : Int) : Int := t * u
def gAll (t b u d : Int) : Int := b * d
def gRev (t b u d : Int) : Int := d * b
def spNeg (C : Addr) : Sp := fun vs H Q _ => ∃ x t b, vs = [.ref x] ∧ RatAt C H x t b ∧ 0 < b ∧ Sm 1000 t ∧ Sm 1000 b ∧ NewR C H Q (lo (-t) b) (lb (-t) b)
def spLt (C : Addr) : Sp := fun vs H Q _ => ∃ x y t b u d, vs = [.ref x, y] ∧ RatAt C H x t b ∧ NumV C H y u d ∧ Sm 1000 t ∧ Sm 1000 b ∧ Sm 1000 u ∧ Sm 1000 d ∧ ∀ H', Same H H' → Q (.bl (decide (t * d < u * b))) H'
def spAbs (C : Addr) : Sp := fun vs H Q _ => ∃ x t b, vs = [.ref x] ∧ RatAt C H x t b ∧ Low t b ∧ Sm 1000 t ∧ Sm 1000 b ∧ NewR C H Q (if t < 0 then -t else t) b
end RR
namespace RR
open PySem PySem.Spec PyProof.Rows L2
end RR
namespace RR
open PySem PySem.Spec PyProof.Rows L2
/-- what the text says of the class Ratio -/
structure RC (K : PySem.W.Frag) (C : Addr) : Prop where
  cls : Cls K C
  nT : NoAttr K C "top"
  nB : NoAttr K C "bottom"
  ca : PySem.W.findIn K (.ref C) "__class__" = some (some (.builtin "object.__class__"))
  cn : PySem.W.specialIn K (.builtin "object.__class__") "__get__" = some (some (.builtin "getset_descriptor.__get__"))
  ct : PySem.W.takesIn K (.builtin "object.__class__") = some true
  cm : PySem.W.mroIn K C (.type "object") = some true
  k0 : PySem.W.kitOne K (.type "int") (.ref C) = some false
theorem dec_int (a b : Int) : decide (V.int a = V.int b) = decide (a = b) := by
  by_cases h : a = b
  · subst h; simp
  · rw [decide_eq_false h, decide_eq_false fun z => h (V.int.inj z)]
end RR
namespace RR
end RR
set_option maxHeartbeats 4000000
namespace RR
open PySem PySem.Spec PyProof.Rows L2

theorem Same.new {H : Hp} {p : Addr} {o : HO} (n : H p = none) : Same H (upd H p o) := fun _ _ e => hp_new e n
theorem same_new {H H1 : Hp} {p : Addr} {o : HO} (s : Same H H1) (n : H1 p = none) : Same H (upd H1 p o) := s.trans (Same.new n)
/-- an object that H does not know may change -/
theorem same_mut {H H1 : Hp} {p : Addr} {o : HO} (s : Same H H1) (n : H p = none) : Same H (upd H1 p o) := fun b u e => by
  rw [upd_ne (ne_of_none e n)]
  exact s b u e
/-- a pair -/
abbrev Pr (H : Hp) (p : Addr) (t b : Int) : Prop := H p = some (.tup [.int t, .int b])
/-- a value is the ratio of a pair -/
def Fits (C : Addr) (H : Hp) (x y : V) : Prop := ∃ a p t b, x = .ref a ∧ y = .ref p ∧ RatAt C H a t b ∧ Pr H p t b ∧ Sm 1900 t ∧ Sm 1900 b
inductive AreL (C : Addr) (H : Hp) : List V → List V → Prop
  | nil : AreL C H [] []
  | cons {x y : V} {xs ys : List V} : Fits C H x y → AreL C H xs ys → AreL C H (x :: xs) (y :: ys)
def spLow : Sp := fun vs H Q _ => ∃ u l, vs = [.int u, .int l] ∧ 0 < l ∧ Sm 5000 l ∧ Sm 5000 u ∧ ∀ p H', Same H H' → H p = none → Pr H' p (lo u l) (lb u l) → Q (.ref p) H'
def spIs (C : Addr) : Sp := fun vs H Q _ => ∃ x y, vs = [x, y] ∧ Fits C H x y ∧ ∀ H', Same H H' → Q (.bl true) H'
def spMade (C : Addr) : Sp := fun vs H Q _ => ∃ p t b, vs = [.ref p] ∧ Pr H p t b ∧ Low t b ∧ Sm 5000 t ∧ Sm 5000 b ∧ NewR C H Q t b
def spFrac : Sp := fun vs H Q _ => ∃ p c ns a g, vs = [.ref p] ∧ PenAt H p c ns a g ∧ a ≤ 99000 ∧ ∀ q t b a' g' H', H' p = some (pen c a' g') → Keep p H H' → H q = none → Pr H' q t b → Low t b → Sm 100 t → Sm 100 b → a ≤ a' → a' ≤ a + 5 → Q (.ref q) H'
/-- the sum, the difference and the product as pairs -/
def spResults : Sp := fun vs H Q _ => ∃ p1 p2 t b u d, vs = [.ref p1, .ref p2] ∧ Pr H p1 t b ∧ Pr H p2 u d ∧ 0 < b ∧ 0 < d ∧ Sm 1000 t ∧ Sm 1000 b ∧ Sm 1000 u ∧ Sm 1000 d ∧
  ∀ q q1 q2 q3 H', Same H H' → H' q = some (.lst [.ref q1, .ref q2, .ref q3]) → Pr H' q1 (lo (fAdd t b u d) (gAll t b u d)) (lb (fAdd t b u d) (gAll t b u d)) →
    Pr H' q2 (lo (fSub t b u d) (gAll t b u d)) (lb (fSub t b u d) (gAll t b u d)) → Pr H' q3 (lo (fMul t b u d) (gAll t b u d)) (lb (fMul t b u d) (gAll t b u d)) → Q (.ref q) H'
structure AreW (C : Addr) (vs : List V) (H : Hp) (Q : VK) : Prop where
  ex : ∃ p q xs ys, vs = [.ref p, .ref q] ∧ H p = some (.lst xs) ∧ H q = some (.lst ys) ∧ ys.length < 1000 ∧ AreL C H xs ys ∧ ∀ H', Same H H' → Q (.bl true) H'
def spAre (C : Addr) : Sp := fun vs H Q _ => AreW C vs H Q
/-- what += , -= and *= make -/
def spPlace (C : Addr) : Sp := fun vs H Q _ => ∃ x y t b u d, vs = [x, y] ∧ NumV C H x t b ∧ NumV C H y u d ∧ ((∃ a, x = .ref a) ∨ ∃ a, y = .ref a) ∧ 0 < b ∧ 0 < d ∧ Sm 1000 t ∧ Sm 1000 b ∧ Sm 1000 u ∧ Sm 1000 d ∧
  ∀ q q1 q2 q3 H', Same H H' → H' q = some (.lst [.ref q1, .ref q2, .ref q3]) → RatAt C H' q1 (lo (fAdd t b u d) (gAll t b u d)) (lb (fAdd t b u d) (gAll t b u d)) →
    RatAt C H' q2 (lo (fSub t b u d) (gAll t b u d)) (lb (fSub t b u d) (gAll t b u d)) → RatAt C H' q3 (lo (fMul t b u d) (gAll t b u d)) (lb (fMul t b u d) (gAll t b u d)) → Q (.ref q) H'
def spPair : Sp := fun vs H Q _ => ∃ p1 p2 t b u d, vs = [.ref p1, .ref p2] ∧ Pr H p1 t b ∧ Pr H p2 u d ∧ Low t b ∧ Low u d ∧ Sm 100 t ∧ Sm 100 b ∧ Sm 100 u ∧ Sm 100 d ∧ ∀ H', Same H H' → Q (.bl true) H'
def spAlone : Sp := fun vs H Q _ => ∃ p t b, vs = [.ref p] ∧ Pr H p t b ∧ Low t b ∧ Sm 100 t ∧ Sm 100 b ∧ ∀ H', Same H H' → Q (.bl true) H'
def spLaw (K : PySem.W.Frag) : Sp := fun vs H Q _ => ∃ (a : Addr) (ns : List Int), vs = [.ref a] ∧ SqL K H a (ns.map V.int) ∧ ns.length ≤ 63 ∧ ∀ H', Q (.bl true) H'

/-! ### reckoning with either order -/
end RR
namespace RR
open PySem PySem.Spec PyProof.Rows L2
theorem cut63 {ns : List Int} (h : ns.length ≤ 63) : cutV (ns.map V.int) none (some 63) = ns.map V.int := by
  unfold cutV
  have e1 : HT.sIx (ns.map V.int).length 0 none = 0 := rfl
  have e2 : HT.sIx (ns.map V.int).length (ns.map V.int).length (some 63) = ns.length := by
    have z := HT.sIx_nat (ns.map V.int).length (ns.map V.int).length 63
    rw [List.length_map] at z ⊢
    rw [show ((63 : Nat) : Int) = 63 from rfl] at z
    rw [z]
    omega
  rw [e1, e2, List.drop_zero, Nat.sub_zero]
  exact List.take_of_length_le (by rw [List.length_map]; exact Nat.le_refl _)
end RR
namespace RR
open PySem PySem.Spec PyProof.Rows L2
/-- a list of ints of which P holds -/
def AllI (P : Int → Prop) (xs : List V) : Prop := ∀ x ∈ xs, ∃ n, x = .int n ∧ P n
end RR
namespace RR
open PySem PySem.Spec PyProof.Rows L2
/-- three pairs; three ratios -/
def ResP (H : Hp) (q : Addr) (t b u d : Int) : Prop := ∃ q1 q2 q3, H q = some (.lst [.ref q1, .ref q2, .ref q3]) ∧ Pr H q1 (lo (fAdd t b u d) (gAll t b u d)) (lb (fAdd t b u d) (gAll t b u d)) ∧
  Pr H q2 (lo (fSub t b u d) (gAll t b u d)) (lb (fSub t b u d) (gAll t b u d)) ∧ Pr H q3 (lo (fMul t b u d) (gAll t b u d)) (lb (fMul t b u d) (gAll t b u d))
def ResR (C : Addr) (H : Hp) (q : Addr) (t b u d : Int) : Prop := ∃ q1 q2 q3, H q = some (.lst [.ref q1, .ref q2, .ref q3]) ∧ RatAt C H q1 (lo (fAdd t b u d) (gAll t b u d)) (lb (fAdd t b u d) (gAll t b u d)) ∧
  RatAt C H q2 (lo (fSub t b u d) (gAll t b u d)) (lb (fSub t b u d) (gAll t b u d)) ∧ RatAt C H q3 (lo (fMul t b u d) (gAll t b u d)) (lb (fMul t b u d) (gAll t b u d))
end RR
namespace RR
open PySem PySem.Spec PyProof.Rows L2
end RR
set_option maxHeartbeats 4000000
namespace RR
open PySem PySem.Spec PyProof.Rows L2 LamX
/-! ### the law's end where defs make lambdas: their tables are tracked from the start -/
/-- the script, and the tables in ts -/
def hpT (ts : List Addr) (a : Addr) (vs : List Value) (ns : List Int) (own : Bool) : Hp := fun b => if b ∈ ts then some (.tbl #[]) else hpOf a vs ns own b
section
variable {ts : List Addr} {a b : Addr} {vs : List Value} {ns : List Int} {o : Bool}
end
end RR
set_option maxHeartbeats 4000000
namespace RR
open PySem PySem.Spec PyProof.Rows L2 LamX
/-! ### an exception that was caught, as a value -/
/-- a caught exception of the class cls, its dict d, at a -/
def HeldX (cls : Value) (d : Option Addr) (a : Addr) : HO := .ext fun h => ∃ oe : Obj, h.get? a = some oe ∧ Zc cls d oe ∧ ∃ vs, oe.data = .fields vs
section
variable {X : Cx} {pins : List (Addr × Obj)} {σ : L2.St} {H : Hp} {s : Shared} {a : Addr} {o : HO}
end
/-- the wish of 'except c as n', where the exception stays known behind its suite: slot i is n's -/
def wAsV (K : PySem.W.Frag) (c : Value) (i : Nat) (ts : Addr → Value → Option Addr → TS) (Wo : WX) (D : Ends) : WX := fun cls d σ H =>
  ∃ b, PySem.W.exmOne K cls c = some b ∧
    (b = true → ∀ a, H a = none → ts a cls d { nx := fun σ' H' => D.nx (σ'.set i none) H', rt := D.rt, bk := fun σ' H' => D.bk (σ'.set i none) H', ct := fun σ' H' => D.ct (σ'.set i none) H' } (σ.set i (some (.ref a))) (upd H a (HeldX cls d a))) ∧
    (b = false → Wo cls d σ H)
section
variable {X : Cx} {x n : Str} {c : Value} {i : Nat} {body suite : List Stmt} {b₀ : Stmt} {np pos pos' : Pos} {tb : WX → TS} {ts : Addr → Value → Option Addr → TS} {Wo : WX}
end
/-! ### isinstance of such a value -/
def rIsX (K : PySem.W.Frag) (D : Addr) : List V → Hp → VK → Prop := fun xs H Q =>
  ∃ (a : Addr) (c : V) (cv : Value) (b : Bool), xs = [.ref a, c] ∧ H a = some (HeldX (.ref D) none a) ∧ (∀ u, RelV c u → u = cv) ∧ PySem.W.kitOne K (.ref D) cv = some b ∧ Q (.bl b) H
/-! ### X(), an own exception class without own __init__ -/
end RR
set_option maxHeartbeats 4000000
namespace RR
open PySem PySem.Spec PyProof.Rows L2 LamX
/-! ### a lambda handed to a def, its body read where no display is under way -/
section
variable {X : Cx} {pins : List (Addr × Obj)} {σ : L2.St} {H : Hp} {s : Shared}
/-- the qualified name of a lambda of this def -/
abbrev lamQ (X : Cx) : Str := X.env.qual ++ "<lambda>"
/-- how the def that got a lambda reads its call: E', Q' are the wishes that the lambda's own reading is told -/
abbrev tActS (i : Nat) (f c' : Addr) (q : Str) (W : WX) (tl : XK → Hp → VK → Prop) : TE := fun σ H Q => σ[i]? = some (some (.ref f)) ∧ H c' = some (CodeO c' q) ∧
  ∃ (E' : XK) (Q' : VK), (∀ cls d H', E' cls d H' → W cls d σ H') ∧ (∀ v H', Q' v H' → Q v H') ∧ tl E' H Q'
end
/-- a def that calls what it got; TT: what it makes of the lambda's reading -/
def GivesS (X : Cx) (Ng : List Str) (x : Str) (sg : Scope) (g : Addr) (cdg : Value) (bg : List Stmt) (a : Str) (q : Str) (TT : (XK → Hp → VK → Prop) → Hp → VK → Prop) : Prop :=
  ∀ (f c' : Addr) (s : Shared) (H : Hp) (Q : VK) (tl : XK → Hp → VK → Prop),
    (∀ (W : WX) (pn : List (Addr × Obj)) (xe : Value → Shared → Prop) (p1 p2 : Pos), Takes ((cxOf C8.CX0 X.prog X.w X.K X.mg X.base Ng x sg g cdg X.A X.stack s H C8.E0).tr pn xe) W →
      PE ((cxOf C8.CX0 X.prog X.w X.K X.mg X.base Ng x sg g cdg X.A X.stack s H C8.E0).tr pn xe) (.Call (.Name a p1) [] [] p2) (tActS 0 f c' q W tl)) →
    H c' = some (CodeO c' q) → TT tl H Q →
    ∃ t, PSs (cxOf C8.CX0 X.prog X.w X.K X.mg X.base Ng x sg g cdg X.A X.stack s H C8.E0).nox bg t ∧ t { nx := fun _ H' => Q .non H', rt := Q } (L2.start Ng [.ref f]) H
section
variable {X : Cx}
end
end RR
set_option maxHeartbeats 4000000
namespace RR
open PySem PySem.Spec PyProof.Rows L2 LamX
/-! ### more operators -/
section
variable {X : Cx}
/-- // of ints, the divisor of either sign -/
def CDivS (_ j : Int) : Prop := j ≠ 0 ∧ j.natAbs.log2 < 9000
end
/-! ### an instance asked whether it is true -/
section
variable {X : Cx} {CX : CXT} {C f : Addr} {n : Nat} {g : Sp} {E : XK}
def tOwnB (C : Addr) (g : Sp) (E : XK) (t : TE) : TT := fun σ H Q => t σ H fun x H1 => (∃ a dx fs, x = .ref a ∧ H1 a = some (.ins C dx fs)) ∧ g [x] H1 (fun v H2 => ∃ b, v = .bl b ∧ Q b H2) E
end
/-! ### list.count of plain items -/
section
variable {X : Cx}
def rCntF (K : PySem.W.Frag) : V → List V → Hp → VK → Prop := fun x xs H Q => ∃ (a : Addr) (ys : List V) (y : V), x = .ref a ∧ xs = [y] ∧ SqL K H a ys ∧ flatV y = true ∧ ys.all flatV = true ∧ Q (.int (ys.countP fun z => eqV z y : Nat)) H
end
/-! ### fractions that are alike -/
end RR
set_option maxHeartbeats 4000000
namespace RR
open PySem PySem.Spec PyProof.Rows L2 LamX
/-! ### o.m(k = v) -/
def tMethK (C : Addr) (m : Str) (n : Nat) (sp : Sp) (gV : List V → List V → List V) (E : XK) (ta : TE) (tk : TA) : TE := fun σ H Q => ta σ H fun x H1 => ∃ a dx fs, x = .ref a ∧ H1 a = some (.ins C dx fs) ∧ fs.lookup m = none ∧
  tk σ H1 fun zs H2 => zs.length = n ∧ sp (gV [x] zs) H2 Q E
/-! ### quotients and rests -/
/-- the exact quotient, as the class makes it -/
def qT (t b u d : Int) : Int := if u < 0 then -t * d else t * d
def qB (t b u d : Int) : Int := if u < 0 then -u * b else u * b
/-- E: what comes of 0 -/
def spOver (C N : Addr) : Sp := fun vs H Q E => ∃ x y t b u d, vs = [.ref x, y] ∧ RatAt C H x t b ∧ NumV C H y u d ∧ 0 < b ∧ 0 < d ∧ Sm 1000 t ∧ Sm 1000 b ∧ Sm 1000 u ∧ Sm 1000 d ∧
  (u ≠ 0 → NewR C H Q (lo (qT t b u d) (qB t b u d)) (lb (qT t b u d) (qB t b u d))) ∧ (u = 0 → ∀ H', Same H H' → E (.ref N) none H')
def spBool (C : Addr) : Sp := fun vs H Q _ => ∃ x t b, vs = [.ref x] ∧ RatAt C H x t b ∧ Q (.bl (t != 0)) H
def spFdiv (C N : Addr) : Sp := fun vs H Q E => ∃ x y t b u d, vs = [.ref x, y] ∧ RatAt C H x t b ∧ NumV C H y u d ∧ 0 < b ∧ 0 < d ∧ Sm 1000 t ∧ Sm 1000 b ∧ Sm 1000 u ∧ Sm 1000 d ∧
  (u ≠ 0 → ∀ H', Same H H' → Q (.int ((t * d).fdiv (b * u))) H') ∧ (u = 0 → ∀ H', Same H H' → E (.ref N) none H')
/-- i // x -/
def spRfdiv (C N : Addr) : Sp := fun vs H Q E => ∃ x t b u, vs = [.ref x, .int u] ∧ RatAt C H x t b ∧ 0 < b ∧ Sm 1000 t ∧ Sm 1000 b ∧ Sm 1000 u ∧
  (t ≠ 0 → ∀ H', Same H H' → Q (.int ((u * b).fdiv (1 * t))) H') ∧ (t = 0 → ∀ H', Same H H' → E (.ref N) none H')
/-- what is left of t/b, k times u/d taken away -/
def rT (t b u d k : Int) : Int := t * d - k * u * b
def spMod (C N : Addr) : Sp := fun vs H Q E => ∃ x y t b u d, vs = [.ref x, y] ∧ RatAt C H x t b ∧ NumV C H y u d ∧ 0 < b ∧ 0 < d ∧ Sm 120 t ∧ Sm 120 b ∧ Sm 120 u ∧ Sm 120 d ∧
  (u ≠ 0 → NewR C H Q (lo (rT t b u d ((t * d).fdiv (b * u))) (b * d)) (lb (rT t b u d ((t * d).fdiv (b * u))) (b * d))) ∧ (u = 0 → ∀ H', Same H H' → E (.ref N) none H')
/-- i % x -/
def spRmod (C N : Addr) : Sp := fun vs H Q E => ∃ x t b u, vs = [.ref x, .int u] ∧ RatAt C H x t b ∧ 0 < b ∧ Sm 120 t ∧ Sm 120 b ∧ Sm 120 u ∧
  (t ≠ 0 → NewR C H Q (lo (rT u 1 t b ((u * b).fdiv (1 * t))) (1 * b)) (lb (rT u 1 t b ((u * b).fdiv (1 * t))) (1 * b))) ∧ (t = 0 → ∀ H', Same H H' → E (.ref N) none H')
end RR
set_option maxHeartbeats 4000000
namespace RR
open PySem PySem.Spec PyProof.Rows L2 LamX
/-! ### what the law about quotients and rests makes -/
def kF (t b u d : Int) : Int := (t * d).fdiv (b * u)
/-- an exact quotient, as a pair -/
def spQuo : Sp := fun vs H Q _ => ∃ p1 p2 t b u d, vs = [.ref p1, .ref p2] ∧ Pr H p1 t b ∧ Pr H p2 u d ∧ 0 < b ∧ 0 < d ∧ u ≠ 0 ∧ Sm 120 t ∧ Sm 120 b ∧ Sm 120 u ∧ Sm 120 d ∧
  ∀ p H', Same H H' → H p = none → Pr H' p (lo (qT t b u d) (qB t b u d)) (lb (qT t b u d) (qB t b u d)) → Q (.ref p) H'
/-- how often it goes, and what is left -/
def spParts : Sp := fun vs H Q _ => ∃ p1 p2 t b u d, vs = [.ref p1, .ref p2] ∧ Pr H p1 t b ∧ Pr H p2 u d ∧ 0 < b ∧ 0 < d ∧ u ≠ 0 ∧ Sm 120 t ∧ Sm 120 b ∧ Sm 120 u ∧ Sm 120 d ∧
  ∀ p r H', Same H H' → H' p = some (.tup [.int (kF t b u d), .ref r]) → Pr H' r (lo (rT t b u d (kF t b u d)) (b * d)) (lb (rT t b u d (kF t b u d)) (b * d)) → Q (.ref p) H'
def spDivided (C : Addr) : Sp := fun vs H Q _ => ∃ x y p1 p2 t b u d, vs = [x, y, .ref p1, .ref p2] ∧ NumV C H x t b ∧ NumV C H y u d ∧ ((∃ a, x = .ref a) ∨ ∃ a, y = .ref a) ∧ Pr H p1 t b ∧ Pr H p2 u d ∧ 0 < b ∧ 0 < d ∧ u ≠ 0 ∧ Sm 120 t ∧ Sm 120 b ∧ Sm 120 u ∧ Sm 120 d ∧
  ∀ H', Same H H' → Q (.bl true) H'
def spPairQ : Sp := fun vs H Q _ => ∃ p1 p2 t b u d, vs = [.ref p1, .ref p2] ∧ Pr H p1 t b ∧ Pr H p2 u d ∧ Low t b ∧ Low u d ∧ u ≠ 0 ∧ Sm 120 t ∧ Sm 120 b ∧ Sm 120 u ∧ Sm 120 d ∧ ∀ H', Same H H' → Q (.bl true) H'
end RR
set_option maxHeartbeats 4000000
namespace RR
open PySem PySem.Spec PyProof.Rows L2 LamX
section
variable {P : Program} {w : World} {K : PySem.W.Frag} {mg : Str → Option Value} {base : Heap} {k : Nat} {f : Addr} {g : Sp}
end
/-- what 'heard' makes of a lambda: a list of its value, or ('none',) where it raises N -/
def TTh (N : Addr) : (XK → Hp → VK → Prop) → Hp → VK → Prop := fun tl H Q => ∀ H0, Same H H0 → ∃ (E' : XK) (Q' : VK), tl E' H0 Q' ∧
  (∀ v H1, Q' v H1 → ∀ q H2, Same H1 H2 → H2 q = some (.lst [v]) → Q (.ref q) H2) ∧
  (∀ cls d H1, E' cls d H1 → cls = .ref N ∧ d = none ∧ ∀ q H2, Same H1 H2 → H2 q = some (.tup [.str "none"]) → Q (.ref q) H2)
/-- all eight are refused -/
def spRefused (T : List (Addr × Str)) : Sp := fun vs H Q _ => ∃ p t b, vs = [.ref p] ∧ Pr H p t b ∧ Low t b ∧ Sm 120 t ∧ Sm 120 b ∧ Tabs T H ∧ ∀ H', ExtN H H' → Tabs T H' → Q (.bl true) H'
def spLawT (K : PySem.W.Frag) (P : Addr) : Sp := fun vs H Q _ => ∃ (a : Addr) (ns : List Int), vs = [.ref a] ∧ SqL K H a (ns.map V.int) ∧ ns.length ≤ 63 ∧ H P = some (.tbl #[]) ∧ ∀ H', Q (.bl true) H'
/-- a list of ('none',) -/
def NoneL (H : Hp) (rs : List V) : Prop := ∀ r ∈ rs, ∃ z, r = .ref z ∧ H z = some (.tup [.str "none"])
structure RefSt (C : Addr) (T : List (Addr × Str)) (H0 H : Hp) (p a1 L q a0 : Addr) (t b : Int) (n : Nat) : Prop where
  ex : ExtN H0 H
  l0 : H0 L = none
  ls : ∃ rs, H L = some (.lst rs) ∧ NoneL H rs ∧ rs.length = n
  ra : RatAt C H a1 t b
  pr : Pr H p t b
  tq : H q = some (.tup [.int 0, .ref a0])
  rz : RatAt C H a0 0 1
  tb : Tabs T H
end RR
set_option maxHeartbeats 4000000
namespace RR
open PySem PySem.Spec PyProof.Rows L2 LamX
/-! ### the endless ratio, 1/0, on one side at least -/
/-- two numbers, one of them endless -/
structure OneEnd (t b u d : Int) : Prop where
  b0 : 0 ≤ b
  d0 : 0 ≤ d
  or : b = 0 ∨ d = 0
  tb : b = 0 → t = 1
  ud : d = 0 → u = 1
  st : Sm 1000 t
  sb : Sm 1000 b
  su : Sm 1000 u
  sd : Sm 1000 d
/-- x and y, one of them endless: what comes if P holds (Q'), and N where it doesn't -/
def spEnd2 (C N : Addr) (P : Int → Int → Int → Int → Prop) (R : Addr → Int → Int → Int → Int → Hp → VK → Prop) : Sp := fun vs H Q E => ∃ x y t b u d, vs = [.ref x, y] ∧ RatAt C H x t b ∧ NumV C H y u d ∧ OneEnd t b u d ∧
  (P t b u d → R x t b u d H Q) ∧ (¬ P t b u d → ∀ H', Same H H' → E (.ref N) none H')
def pAdd (t b u d : Int) : Prop := 0 ≤ t ∧ 0 ≤ u
def pMul (t b u d : Int) : Prop := 0 < t ∧ 0 < u
def pNo (t b u d : Int) : Prop := False
/-- when a quotient is told: the endless one by a number above 0, or a number by the endless one -/
def pOver (t b u d : Int) : Prop := (b = 0 ∧ d ≠ 0 ∧ 0 < u) ∨ (b ≠ 0 ∧ d = 0)
def rEnd (C : Addr) (_ : Addr) (_ _ _ _ : Int) (H : Hp) (Q : VK) : Prop := NewR C H Q 1 0
def rOver (C : Addr) (_ : Addr) (_ b _ _ : Int) (H : Hp) (Q : VK) : Prop := if b = 0 then NewR C H Q 1 0 else NewR C H Q 0 1
def spEnd0 (C : Addr) : Sp := fun vs H Q _ => vs = [] ∧ NewR C H Q 1 0
def spNegE (C N : Addr) : Sp := fun vs H Q E => ∃ x, vs = [.ref x] ∧ RatAt C H x 1 0 ∧ E (.ref N) none H
def spAbsE (C : Addr) : Sp := fun vs H Q _ => ∃ x, vs = [.ref x] ∧ RatAt C H x 1 0 ∧ ∀ H', Same H H' → Q (.ref x) H'
def spLe (C : Addr) : Sp := fun vs H Q _ => ∃ x y t b u d, vs = [.ref x, y] ∧ RatAt C H x t b ∧ NumV C H y u d ∧ Sm 1000 t ∧ Sm 1000 b ∧ Sm 1000 u ∧ Sm 1000 d ∧ ∀ H', Same H H' → Q (.bl (decide (t * d ≤ u * b))) H'
/-- i op x, x endless -/
def spRefE (C N : Addr) (P : Int → Prop) : Sp := fun vs H Q E => ∃ x u, vs = [.ref x, .int u] ∧ RatAt C H x 1 0 ∧ Sm 1000 u ∧ (P u → NewR C H Q 1 0) ∧ (¬ P u → ∀ H', Same H H' → E (.ref N) none H')
end RR
set_option maxHeartbeats 4000000
namespace RR
open PySem PySem.Spec PyProof.Rows L2 LamX
/-- left op= right by the number of the deed -/
def pWay (w t b u d : Int) : Prop := (w = 0 ∧ pAdd t b u d) ∨ (w = 2 ∧ pMul t b u d)
def spPlaceE (C N : Addr) : Sp := fun vs H Q E => ∃ x y w t b u d, vs = [x, y, .int w] ∧ NumV C H x t b ∧ NumV C H y u d ∧ ((∃ a, x = .ref a) ∨ ∃ a, y = .ref a) ∧ OneEnd t b u d ∧ 0 ≤ w ∧ w ≤ 4 ∧
  (pWay w t b u d → NewR C H Q 1 0) ∧ (¬ pWay w t b u d → ∀ H', Same H H' → E (.ref N) none H')
/-- what 'told' makes of what was heard -/
def spTold (C : Addr) : Sp := fun vs H Q _ => (∃ q, vs = [.ref q] ∧ H q = some (.tup [.str "none"]) ∧ Q (.ref q) H) ∨
  ∃ q a t b, vs = [.ref q] ∧ H q = some (.lst [.ref a]) ∧ RatAt C H a t b ∧ ∀ p, H p = none → Q (.ref p) (upd H p (.tup [.int t, .int b]))
/-- a pair, in lowest terms or endless, made -/
def spMadeE (C : Addr) : Sp := fun vs H Q _ => ∃ p t b, vs = [.ref p] ∧ Pr H p t b ∧ (Low t b ∨ t = 1 ∧ b = 0) ∧ Sm 5000 t ∧ Sm 5000 b ∧ NewR C H Q t b
end RR
set_option maxHeartbeats 4000000
namespace RR
open PySem PySem.Spec PyProof.Rows L2 LamX
/-! ### lists of what was heard, and of what is told of it -/
/-- what came of a deed: a ratio's top and bottom, or nothing -/
abbrev Deed := Option (Int × Int)
def HeardIs (C : Addr) (H : Hp) (x : V) (o : Deed) : Prop := match o with
  | none => ∃ z, x = .ref z ∧ H z = some (.tup [.str "none"])
  | some (t, b) => ∃ z a, x = .ref z ∧ H z = some (.lst [.ref a]) ∧ RatAt C H a t b
def ToldIs (H : Hp) (x : V) (o : Deed) : Prop := match o with
  | none => ∃ z, x = .ref z ∧ H z = some (.tup [.str "none"])
  | some (t, b) => ∃ z, x = .ref z ∧ H z = some (.tup [.int t, .int b])
inductive Each (R : V → Deed → Prop) : List V → List Deed → Prop
  | nil : Each R [] []
  | cons {x : V} {o : Deed} {xs : List V} {os : List Deed} : R x o → Each R xs os → Each R (x :: xs) (o :: os)
def toldD (o : Deed) : PyData := match o with
  | none => .tuple [.str "none"]
  | some (t, b) => .tuple [.int t, .int b]
/-- under way: the list L of what was heard so far -/
structure DSt (C : Addr) (T : List (Addr × Str)) (H0 H : Hp) (L : Addr) (x y : V) (t b u d : Int) (os : List Deed) : Prop where
  ex : ExtN H0 H
  l0 : ∀ u, H0 L = some u → ∃ ps, u = .tbl ps
  ls : ∃ xs, H L = some (.lst xs) ∧ Each (HeardIs C H) xs os
  nx : NumV C H x t b
  ny : NumV C H y u d
  tb : Tabs T H
/-! ### what is due -/
instance (t b u d : Int) : Decidable (pAdd t b u d) := by unfold pAdd; infer_instance
instance (t b u d : Int) : Decidable (pMul t b u d) := by unfold pMul; infer_instance
def plusO (t b u d : Int) : Deed := if pAdd t b u d then some (1, 0) else none
def timesO (t b u d : Int) : Deed := if pMul t b u d then some (1, 0) else none
def overO (t b u d : Int) : Deed := if b = 0 then (if d ≠ 0 ∧ 0 < u then some (1, 0) else none) else (if d = 0 then some (0, 1) else none)
def dues (t b u d : Int) (r : Bool) : List Deed :=
  [plusO t b u d, none, timesO t b u d, none, none, plusO t b u d, none, timesO t b u d, none, none] ++ (if r then [overO t b u d] else [])

/-- left, right, one of them endless: all that comes of both -/
def spDeeds (C : Addr) (T : List (Addr × Str)) : Sp := fun vs H Q _ => ∃ x y t b u d r, vs = [x, y] ∧ NumV C H x t b ∧ NumV C H y u d ∧ ((∃ a, x = .ref a) ∨ ∃ a, y = .ref a) ∧ OneEnd t b u d ∧ (r = true ↔ ∃ a, x = .ref a) ∧ Tabs T H ∧
  ∀ q H', ExtN H H' → Tabs T H' → (∃ ys, H' q = some (.lst ys) ∧ Each (ToldIs H') ys (dues t b u d r)) → Q (.ref q) H'
def spDue : Sp := fun vs H Q _ => ∃ p1 p2 t b u d r, vs = [.ref p1, .ref p2, .bl r] ∧ Pr H p1 t b ∧ Pr H p2 u d ∧ OneEnd t b u d ∧
  ∀ q H', Same H H' → (∃ ys, H' q = some (.lst ys) ∧ Each (ToldIs H') ys (dues t b u d r)) → Q (.ref q) H'
end RR
namespace RR
end RR
namespace RR
end RR
namespace RR
end RR
namespace RR
open PySem PySem.Spec PyProof.Rows L2 LamX
/-- in lowest terms, or endless -/
def LowE (t b : Int) : Prop := Low t b ∨ t = 1 ∧ b = 0
def spPairE (T : List (Addr × Str)) : Sp := fun vs H Q _ => ∃ p1 p2 t b u d, vs = [.ref p1, .ref p2] ∧ Pr H p1 t b ∧ Pr H p2 u d ∧ OneEnd t b u d ∧ LowE t b ∧ LowE u d ∧ Tabs T H ∧ ∀ H', ExtN H H' → Tabs T H' → Q (.bl true) H'
end RR
namespace RR
open PySem PySem.Spec PyProof.Rows L2 LamX
/-- one Ratio is the other -/
def spEqR (C : Addr) : Sp := fun vs H Q _ => ∃ x t b y u d, vs = [.ref x, .ref y] ∧ RatAt C H x t b ∧ RatAt C H y u d ∧ Q (.bl (decide (t = u ∧ b = d))) H
end RR
namespace RR
open PySem PySem.Spec PyProof.Rows L2 LamX
def spLawE (K : PySem.W.Frag) (T : List (Addr × Str)) : Sp := fun vs H Q _ => ∃ (a : Addr) (ns : List Int), vs = [.ref a] ∧ SqL K H a (ns.map V.int) ∧ ns.length ≤ 63 ∧ Tabs T H ∧ ∀ H', Q (.bl true) H'
end RR
set_option maxHeartbeats 4000000
namespace RR
open PySem PySem.Spec PyProof.Rows L2 LamX
section
variable {X : Cx} {CX : CXT} {C f : Addr} {n : Nat} {g : Sp} {E : XK}
/-- str(x), x an instance with its own text -/
def rStrO (C : Addr) (g : Sp) (E : XK) : List V → Hp → VK → Prop := fun xs H Q => (∃ a dx fs, xs = [.ref a] ∧ H a = some (.ins C dx fs)) ∧ g xs H (fun v H' => ∃ z, v = .str z ∧ Q v H') E
/-- {x}, likewise -/
def tFmtO (C : Addr) (g : Sp) (E : XK) (te : TE) : TE := fun σ H Q => te σ H fun x H1 => rStrO C g E [x] H1 Q
/-- x == y, x an instance of C, y of any kind that comes not ahead of it -/
def rCmpY (K : PySem.W.Frag) (C : Addr) (g : Sp) (E : XK) : R2 := fun x y H Q => ∃ a dx fs t, x = .ref a ∧ H a = some (.ins C dx fs) ∧ TyX K H y t ∧ PySem.W.notFirst K C t = true ∧ g [x, y] H Q E
/-- x != y, likewise, by the class's == -/
def rNeY (K : PySem.W.Frag) (C : Addr) (g : Sp) (E : XK) : R2 := fun x y H Q => ∃ a dx fs t, x = .ref a ∧ H a = some (.ins C dx fs) ∧ TyX K H y t ∧ PySem.W.notFirst K C t = true ∧ g [x, y] H (fun v H' => ∃ b, v = .bl b ∧ Q (.bl (!b)) H') E
/-! ### a caught exception, with a field -/
def rIsX2 (K : PySem.W.Frag) : List V → Hp → VK → Prop := fun xs H Q =>
  ∃ (a D : Addr) (d : Option Addr) (c : V) (cv : Value) (b : Bool), xs = [.ref a, c] ∧ ExcC K D ∧ H a = some (HeldX (.ref D) d a) ∧ (d = none ∨ ∃ dd fs, d = some dd ∧ H dd = some (.xd fs)) ∧ (∀ u, RelV c u → u = cv) ∧ PySem.W.kitOne K (.ref D) cv = some b ∧ Q (.bl b) H
/-- x.f, x such an exception -/
def tAtX (K : PySem.W.Frag) (f : Str) (te : TE) : TE := fun σ H Q => te σ H fun x H1 => ∃ (a D dd : Addr) (v : V), x = .ref a ∧ ExcC K D ∧ PySem.W.findIn K (.ref D) f = some none ∧ H1 a = some (HeldX (.ref D) (some dd) a) ∧ H1 dd = some (.xd [(f, v)]) ∧ Q v H1
end
end RR
namespace PySem
namespace LowA
open PySem.W PySem.Calls PyProof.Rows PySem.HandSPX
/-! ### the text of __init__ -/
def iA (p1 p2 : Pos) : Arguments := { posonlyargs := [], args := [{ arg := "self", annotation := none, pos := p1 }, { arg := "at", annotation := none, pos := p2 }], vararg := none, kwonlyargs := [], kw_defaults := [], kwarg := none, defaults := [] }
def iB (q1 q2 q3 q4 : Pos) : List Stmt := [.Assign [.Attribute (.Name "self" q1) "at" q2] (.Name "at" q3) q4]
def iS : Scope := { kind := .function, names := [(PySem.Str.ofString "self", .local), (PySem.Str.ofString "at", .local)], isGenerator := false, isCoroutine := false, more := [] }
/-- what the written part says of Low, at C, and of its __init__, at fI -/
structure LowTxt (K : Frag) (mg : Str → Option Value) (cn qn : Str) (C fI : Addr) : Prop where
  gC : mg cn = some (.ref C)
  cls : ∃ nm q N bs bm sn sub ab col dd k0 k1 k2 k3 k5, K.lookup C = some (excClassObj nm q C N bs bm true sn sub ab col dd k0 k1 k2 k3 k5 "ValueError.__new__") ∧ refsVE bm = true
  sa : findIn K (.ref C) "__setattr__" = some (some (.builtin "object.__setattr__"))
  ga : findIn K (.ref C) "__getattribute__" = some (some (.builtin "BaseException.__getattribute__"))
  gg : findIn K (.ref C) "__getattr__" = some none
  noN : findIn K (.ref C) "at" = some none
  iC : findIn K (.ref C) "__init__" = some (some (.ref fI))
  tC : typeIn K (.ref fI) = some (.type "function")
  kC : keepIn K (.ref C) = true
  exC : subIn K (.ref C) (.type "BaseException") = some true
  tyC : typeIn K (.ref C) = some (.type "type")
  hdC : hasDictIn K C = true
  te : exmOne K (.ref C) (.ref C) = some true
  fn : ∃ (oc : Value) (od : Option Addr) (doc pm : Value) (an : Option Addr) (cdv ct : Value) (osl : Array (Option Value)) (p1 p2 q1 q2 q3 q4 : Pos),
    K.lookup fI = some ⟨oc, od, .func (fnOf "__init__" qn (iA p1 p2) (iB q1 q2 q3 q4) iS .none .none doc pm an cdv ct), osl⟩ ∧ codeIn K cdv qn = true
theorem one_size (v : Value) : [v].length ≤ sizeLine := by
  rw [sizeLine_eq]
  exact (by decide : 1 ≤ 16777216)
theorem kept_but {K : Frag} {h h' : Heap} {x : Addr} (X : K.In h) (hx : K.lookup x = none) (k : ∀ b o, b ≠ x → h.get? b = some o → h'.get? b = some o) : K.In h' := fun a o e =>
  k a o (fun z => by rw [z, hx] at e; cases e) (X a o e)
theorem ldC {M : Model} {s : Shared} {name : Str} {scope : Scope} {L a : Addr} {cd : Value} {m : Str → Option Value} {x : Str} {pos : Pos} {v : Value} {Q : Value → Shared → Prop} {A : Around} {E : Value → Shared → Prop} (hn : s.heap.Ns L m) (hv : m x = some v) (h : Q v s)
    (hk : scope.kind = .function := by rfl) (hl : (envOfC name scope L a cd).kindOf x = some .local := by rfl) (hd : (x == ("__debug__" : Str)) = false := by decide) :
    wpAny M A (eval (.Name x pos) (envOfC name scope L a cd)) Q E s := wpAny_Name (wpAny_loadName_local hk hl hn hv h) hd
/-- what __init__ leaves of a fresh exception at x -/
structure InitEnd (h h' : Heap) (x C dx t1 : Addr) (v : Value) : Prop where
  keep : ∀ b o, b ≠ x → h.get? b = some o → h'.get? b = some o
  obj : h'.get? x = some { cls := .ref C, dict := some dx, data := .fields #[.ref t1, .none, .none, .none, .bool false, .none] }
  dbig : h.objs.size ≤ dx
  dne : dx ≠ x
  ns : h'.Ns1 dx (fun y => if y = "at" then some v else none)
/-- a made Low -/
structure OwnMade (h h' : Heap) (e C d : Addr) (v : Value) : Prop where
  keep : ∀ b o, h.get? b = some o → h'.get? b = some o
  new : h.objs.size ≤ e
  obj : ∃ oe vs, h'.get? e = some oe ∧ oe.cls = .ref C ∧ oe.dict = some d ∧ oe.data = .fields vs ∧ vs[1]? = some .none
  dbig : h.objs.size ≤ d
  dne : d ≠ e
  ns : h'.Ns1 d (fun y => if y = "at" then some v else none)
section
variable {prog : Program} {w : World} {A : Around} {E : Value → Shared → Prop} {R : Result → Shared → Prop} {s : Shared} {K : Frag} {mg : Str → Option Value} {C fI : Addr} {cn qn : Str}
theorem low_init (T : LowTxt K mg cn qn C fI) {x t0 : Addr} {v : Value} (X : K.In s.heap) (hlim : s.heap.NoLimit) (hx : s.heap.get? x = some (excO C t0)) (hnx : K.lookup x = none) (hroom : A.depth < recursionLimit)
    (hq : ∀ h' tk dx, InitEnd s.heap h' x C dx t0 v → R (.ok (.ret .none)) { s with heap := h', toks := tk }) :
    codeAny (model prog w) A (.call (.ref fI) ⟨[.ref x, v], []⟩) R s := by
  obtain ⟨oc, od, doc, pm, an, cdv, ct, osl, p1, p2, q1, q2, q3, q4, ho, hcd⟩ := T.fn
  obtain ⟨nm, q, N, bs, bm, sn, sub, ab, col, dd, k0, k1, k2, k3, k5, hC, hbm⟩ := T.cls
  have hcl : clsIn K C = some { name := nm, bases := bs, mro := .ref C :: bm, ns := N, qualname := q, hasDict := true, slotNames := sn, subclasses := sub, abstract := ab, collection := col, hasDel := false } := by unfold clsIn; rw [hC] <;> rfl
  refine Att.call_fn (binds := [("self", .ref x), ("at", v)]) X hlim ho hcd hroom (BindsTo.of_eq (by first | rfl | with_unfolding_all rfl)) (by first | rfl | decide | with_unfolding_all rfl) (fun s₁ IC => ?_) rfl rfl rfl
  obtain ⟨h₁, tk₁, rfl⟩ := IC.toInCall.same
  have k : ∀ b o, s.heap.get? b = some o → h₁.get? b = some o := IC.toInCall.keep
  have hn := IC.toInCall.ns
  have hxL : s.heap.objs.size ≠ x := Nat.ne_of_gt (Heap.lt_size hx)
  have X₁ : K.In h₁ := X.keeps k
  have hx₁ := k _ _ hx
  -- self.by = by
  show wpAny _ _ (execs _ _) _ _ _
  refine wpAny_execs_cons (plainObj_wpAny_Assign_Attribute ?_)
  refine ldC (v := v) hn (by first | rfl | with_unfolding_all rfl | kernel_rfl) (ldC (v := .ref x) hn (by first | rfl | with_unfolding_all rfl | kernel_rfl) ?_)
  refine set_plain X₁ (ox := excO C t0) (od := none) ⟨hx₁, rfl, rfl, trivial⟩ T.sa ?_
  refine exc_osa X₁ hx₁ hcl (show refsVE (.ref C :: bm) = true from hbm) rfl T.noN (fun h₃ tk₃ dx k₃ dn dne hx₃ hn₃ => ?_)
  show wpAny _ _ (execs _ _) _ _ _
  have z : s.heap.objs.size < h₁.objs.size := hn.lt
  exact wpAny_execs_nil (hq h₃ tk₃ dx ⟨fun b o hb e => k₃ b o hb (k b o e), hx₃, Nat.le_of_lt (Nat.lt_of_lt_of_le z dn), dne, hn₃⟩)
theorem low_made (T : LowTxt K mg cn qn C fI) {v : Value} (X : K.In s.heap) (hlim : s.heap.NoLimit) (hroom : A.depth + 1 < recursionLimit)
    (hq : ∀ h' tk e d, OwnMade s.heap h' e C d v → R (.ok (.ret (.ref e))) { s with heap := h', toks := tk }) :
    codeAny (model prog w) A (.call (.ref C) ⟨[v], []⟩) R s := by
  obtain ⟨nm, q, N, bs, bm, sn, sub, ab, col, dd, k0, k1, k2, k3, k5, hC, hbm⟩ := T.cls
  obtain ⟨hp, g, dr, tk, os⟩ := s
  have k : ∀ b o, hp.get? b = some o → ((hp.push (kdv_tup [v])).push (excO C hp.objs.size)).get? b = some o := fun b o e => Heap.get?_push_of_some _ (Heap.get?_push_of_some _ e)
  have hget : ((hp.push (kdv_tup [v])).push (excO C hp.objs.size)).get? (hp.objs.size + 1) = some (excO C hp.objs.size) := by heap_get
  have hnx : K.lookup (hp.objs.size + 1) = none := by
    cases e : K.lookup (hp.objs.size + 1) with
    | none => rfl
    | some o =>
      have z : hp.get? (hp.objs.size + 1) = some o := X _ _ e
      exact absurd (Nat.lt_of_succ_lt (Heap.lt_size z)) (Nat.lt_irrefl _)
  refine call_own F.excBase_ValueError (fun X => refsVE_contains X bm hbm) (X _ _ hC) (looks_findIn X T.iC) (fun self => bind_fn X self T.tC) (one_size v) ?_
  refine low_init (s := ⟨(hp.push (kdv_tup [v])).push (excO C hp.objs.size), g, dr, tk, os⟩) T (X.keeps k) (hlim.keeps k) hget hnx ?_ fun h' tk' dx ⟨k', hx, dn, dne, hns⟩ => ?_
  · show A.depth + 1 < recursionLimit
    exact hroom
  · have old : ∀ b o, hp.get? b = some o → h'.get? b = some o := fun b o e => k' b o (Nat.ne_of_lt (Nat.lt_succ_of_lt (Heap.lt_size e))) (k b o e)
    have z : hp.objs.size + 1 + 1 ≤ dx := by
      first
        | (simpa only [Heap.size_push] using dn)
        | exact dn
        | (have q := dn; rw [Heap.size_push, Heap.size_push] at q; exact q)
    exact ⟨rfl, hq h' tk' (hp.objs.size + 1) dx ⟨old, Nat.le_succ _, ⟨_, _, hx, rfl, rfl, rfl, rfl⟩, Nat.le_trans (Nat.le_trans (Nat.le_succ _) (Nat.le_succ _)) z, dne, hns⟩⟩
end
end LowA
end PySem
namespace L2
open PySem PySem.Spec PyProof.Rows
section
variable {X : Cx} {C fI : Addr} {cn qn : Str}
/-- Low(e) -/
def tMkLowA (C : Addr) (ta : TA) : St → Hp → XK → Prop := fun σ H Q => ta σ H fun vs H1 => ∃ v, vs = [v] ∧ ∀ d, H1 d = none → Q (.ref C) (some d) (upd H1 d (.xd [(("at" : Str), v)]))
/-- raise Low(e) -/
def tRaiseLowA (C : Addr) (W : WX) (ta : TA) : TS := fun _ σ H => tMkLowA C ta σ H fun cls d H' => W cls d σ H'
/-- low.by, low the exception that the suite holds (at a; its class cls, its dict d) -/
def tByLowA (C : Addr) (a : Addr) (cls : Value) (d : Option Addr) (te : TE) : TE := fun σ H Q => te σ H fun x H1 => x = .ref a ∧ cls = .ref C ∧ ∃ (dd : Addr) (v : V), d = some dd ∧ H1 dd = some (.xd [(("at" : Str), v)]) ∧ Q v H1
end
end L2

set_option maxHeartbeats 4000000
namespace RR
open PySem PySem.Spec PyProof.Rows L2
/-! ### tuples as members of a set: what is asked of them -/
section
variable {P : Program} {w : World} {A : Around} {E : Value → Shared → Prop} {s : Shared} {T : Type} [DecidableEq T] {kd : KeyKind P w T}
/-- no address: no class statement stands behind it, and its hash is known or not -/
theorem plainV_cls {v : Value} (c : carriedByValue v = true) (n : Nat) : ofAClassStatement n v = pure false := by
  cases v <;> first | (cases n <;> rfl) | cases c
theorem plainV_hash {v : Value} (c : carriedByValue v = true) (n : Nat) : ∃ b, hashByValue n v = pure b := by
  cases v <;> first | exact absurd c Bool.false_ne_true | (cases n <;> exact ⟨_, rfl⟩)
theorem member_cls {ks : List T} {b : Addr} {Q : Bool → Shared → Prop} (m : IsTupleKey kd s.heap ks b) (q : Q false s) : wpAny (model P w) A (ofAClassStatement 8 (.ref b)) Q E s := by
  have ty := m.typeIs
  obtain ⟨ob, its, cnt, look, _, dat, its_are⟩ := m
  have flat := ItemsAre.byValue its_are
  unfold ofAClassStatement
  refine wpAny_bind (wpAny_typeOf ty ?_)
  simp only [show (("tuple" : String) == "tuple") = true from rfl, if_true, pure_bind, Bool.not_true, Bool.false_eq_true, if_false]
  refine wpAny_bind (wpAny_seqItems look dat ?_)
  dsimp only
  refine wpAny_bind ?_
  rw [← Array.forIn_toList]
  refine wpAny_forIn_list _ (fun left st z => z = s ∧ st.1 = none ∧ ∀ u ∈ left, carriedByValue u = true) _ (fun u left st z inv => ?_) (fun st z inv => ?_) _ _ ⟨rfl, rfl, flat⟩
  · obtain ⟨ez, es, fl⟩ := inv
    subst ez
    rw [plainV_cls (fl u (.head _)), pure_bind]
    simp only [Bool.false_eq_true, if_false]
    exact wpAny_pure ⟨rfl, rfl, fun y hy => fl y (.tail _ hy)⟩
  · obtain ⟨ez, es, _⟩ := inv
    subst ez
    obtain ⟨r, r2⟩ := st
    obtain rfl : r = none := es
    exact wpAny_pure q
theorem member_hash {ks : List T} {b : Addr} {Q : Bool → Shared → Prop} (m : IsTupleKey kd s.heap ks b) (q : ∀ r, Q r s) : wpAny (model P w) A (hashByValue 8 (.ref b)) Q E s := by
  have ty := m.typeIs
  obtain ⟨ob, its, cnt, look, _, dat, its_are⟩ := m
  have flat := ItemsAre.byValue its_are
  unfold hashByValue
  refine wpAny_bind (wpAny_specialOf ty F.slot_tuple_hash.lookup ?_)
  dsimp only
  refine wpAny_bind (wpAny_seqItems look dat ?_)
  dsimp only [Option.getD]
  refine wpAny_bind ?_
  rw [← Array.forIn_toList]
  refine wpAny_forIn_list _ (fun left st z => z = s ∧ st.1 = none ∧ ∀ u ∈ left, carriedByValue u = true) _ (fun u left st z inv => ?_) (fun st z inv => ?_) _ _ ⟨rfl, rfl, flat⟩
  · obtain ⟨ez, es, fl⟩ := inv
    subst ez
    obtain ⟨r, er⟩ := plainV_hash (fl u (.head _)) 7
    rw [er, pure_bind]
    cases r with
    | true =>
      simp only [Bool.not_true, Bool.false_eq_true, if_false]
      exact wpAny_pure ⟨rfl, rfl, fun y hy => fl y (.tail _ hy)⟩
    | false =>
      simp only [Bool.not_false, if_true]
      exact wpAny_pure (wpAny_pure (q false))
  · obtain ⟨ez, es, _⟩ := inv
    subst ez
    rw [es]
    exact wpAny_pure (q true)
/-- a search among members is not seen -/
theorem unseen {ks : List T} {b : Addr} {Q : Bool → Shared → Prop} (m : IsTupleKey kd s.heap ks b) {ys : List Value} (hy : ∀ y ∈ ys, ∃ c js, y = Value.ref c ∧ IsTupleKey kd s.heap js c) (q : Q false s) : wpAny (model P w) A (searchCouldBeSeen (.ref b) ys) Q E s := by
  unfold searchCouldBeSeen
  refine wpAny_bind (wpAny_forIn_list _ (fun left st z => z = s ∧ st.1 = none ∧ ∀ y ∈ left, ∃ c js, y = Value.ref c ∧ IsTupleKey kd s.heap js c) _ (fun u left st z inv => ?_) (fun st z inv => ?_) _ _ ⟨rfl, rfl, hy⟩)
  · obtain ⟨ez, es, al⟩ := inv
    subst ez
    obtain ⟨c, js, rfl, mc⟩ := al u (.head _)
    have al2 : ∀ y ∈ left, ∃ c js, y = Value.ref c ∧ IsTupleKey kd z.heap js c := fun y hy => al y (.tail _ hy)
    dsimp only
    split
    · exact wpAny_pure ⟨rfl, rfl, al2⟩
    · refine wpAny_bind (wpAny_eqIsQuiet_tuple m ?_)
      simp only [Bool.not_true, Bool.false_eq_true, if_false]
      refine wpAny_bind (wpAny_eqIsQuiet_tuple mc ?_)
      simp only [Bool.not_true, Bool.false_eq_true, if_false]
      refine wpAny_bind (member_cls m (wpAny_bind (member_cls mc ?_)))
      exact wpAny_pure ⟨rfl, rfl, al2⟩
  · obtain ⟨ez, es, _⟩ := inv
    subst ez
    dsimp only
    rw [es]
    exact wpAny_pure q
/-! ### the set, and a search in it for what it lacks -/
/-- the set at a: its members and where they stand, in the order of the table -/
structure BagAt (kd : KeyKind P w T) (h : Heap) (a : Addr) (L : List (Addr × List T)) (es : Array (Int × Value)) (ep : Nat) (t : SetTable) : Prop where
  obj : ∃ o, h.get? a = some o ∧ (o.ExactSet ∧ o.data = .set es ep t)
  ent : es.toList = L.map fun e => (tupleKeyHash kd e.2, Value.ref e.1)
  tab : TabOk t (L.map fun e => tupleKeyHash kd e.2)
  dis : (L.map fun e => e.2).Nodup
  mem : ∀ e ∈ L, IsTupleKey kd h e.2 e.1
  led : t.led = true ∨ w.params.followText "set-order" = true
  spare : 5 * L.length < 3 * t.mask
  less : L.length < 77
variable {a : Addr} {L : List (Addr × List T)} {es : Array (Int × Value)} {ep : Nat} {t : SetTable}
theorem BagAt.count (B : BagAt kd s.heap a L es ep t) : es.size = L.length := by
  rw [← Array.length_toList, B.ent, List.length_map]
theorem BagAt.places (B : BagAt kd s.heap a L es ep t) : t.place.toList.length = L.length := by
  rw [Array.length_toList, B.tab.sz, List.length_map]
theorem BagAt.fits (B : BagAt kd s.heap a L es ep t) : t.fits es.size = true := by
  have n1 := B.places
  have n2 := B.count
  have n3 := B.spare
  rw [Array.length_toList] at n1
  unfold SetTable.fits SetTable.fill
  simp only [B.tab.dm, Bool.and_eq_true, beq_iff_eq, decide_eq_true_eq, Array.size_empty]
  omega
/-- where a search stands behind c steps -/
def stp (t : SetTable) (h : Int) (c : Nat) : SetTable.Probe := nth t.mask (t.probeStart h) c
theorem stp_way (t : SetTable) (h : Int) (c : Nat) : (stp t h c).j = way t.mask h c := rfl
theorem stp_on (t : SetTable) (h : Int) (c k : Nat) : nth t.mask (stp t h c) k = stp t h (c + k) := (nth_add t.mask c (t.probeStart h) k).symm
theorem stp_bare (t : SetTable) (h : Int) : ∀ c, (stp t h c).dummy = none
  | 0 => rfl
  | c + 1 => by
    unfold stp
    rw [nth_succ]
    exact (advance_dummy t (nth t.mask (t.probeStart h) c)).trans (stp_bare t h c)
theorem BagAt.entry (B : BagAt kd s.heap a L es ep t) {i : Nat} {e : Addr × List T} (g : L[i]? = some e) : es[i]? = some (tupleKeyHash kd e.2, Value.ref e.1) := by
  have z : es.toList[i]? = some (tupleKeyHash kd e.2, Value.ref e.1) := by rw [B.ent, List.getElem?_map, g, Option.map_some]
  rwa [Array.getElem?_toList] at z
theorem seek (B : BagAt kd s.heap a L es ep t) {x : Addr} {k : List T} (mx : IsTupleKey kd s.heap k x) (hu : A.units < cLine) (nk : ∀ e ∈ L, e.2 ≠ k) {C : Nat} (free : way t.mask (tupleKeyHash kd k) C ∉ t.place.toList)
    (taken : ∀ c, c < C → way t.mask (tupleKeyHash kd k) c ∈ t.place.toList) (near : C < 10 * SetTable.turns t.mask) {Q : SetFound → Shared → Prop} (q : Q (.free (way t.mask (tupleKeyHash kd k) C) false) s) :
    ∀ (n f : Nat) (stand : Option SetTable.Probe) (c : Nat), c + n = C → n < f → stand.getD (t.probeStart (tupleKeyHash kd k)) = stp t (tupleKeyHash kd k) c → wpAny (model P w) A (setSearchFrom a (.ref x) (tupleKeyHash kd k) true f stand) Q E s := by
  intro n
  induction n using Nat.strongRecOn with
  | _ n ih =>
    intro f stand c e1 e2 e3
    obtain ⟨g, rfl⟩ : ∃ g, f = g + 1 := ⟨f - 1, by omega⟩
    obtain ⟨o, look, exact_, dat⟩ := B.obj
    have looks := go_spec t B.tab.ris B.tab.dm (fun i => (es[i]?.map fun e => e.1).getD 0) (tupleKeyHash kd k) (10 * SetTable.turns t.mask) n (stp t (tupleKeyHash kd k) c) (stp_bare _ _ _) (by omega)
      (fun m hm => by rw [stp_on, stp_way]; exact taken _ (by omega)) (by rw [stp_on, stp_way, e1]; exact free)
    rw [setSearchFrom]
    refine wpAny_bind (wpAny_setState_of look dat B.fits ?_)
    dsimp only
    rw [if_neg (by unfold SetTable.gaveWay; rw [mask_odd B.tab.mok]; decide)]
    generalize hpr : t.probe _ (tupleKeyHash kd k) _ = met
    rw [e3] at hpr
    rcases looks with ⟨m, i, hm, at_i, same_h, _, got⟩ | ⟨_, got⟩
    · obtain rfl := hpr.symm.trans got
      dsimp only
      have pl := B.places
      have il : i < L.length := by
        have := (List.getElem?_eq_some_iff.mp at_i).1
        omega
      obtain ⟨e, ge⟩ : ∃ e, L[i]? = some e := ⟨L[i], List.getElem?_eq_getElem il⟩
      have eL := List.mem_of_getElem? ge
      have ent := B.entry ge
      have ke : decide (e.2 = k) = false := decide_eq_false (nk e eL)
      have sl : t.slot (nth t.mask (stp t (tupleKeyHash kd k) c) m).j = .live i := slot_live B.tab.ris at_i
      have mem : t.sameMemory t.moves t.mask = some true := by
        unfold SetTable.sameMemory
        simp
      have on := ih (n - (m + 1)) (by omega) g (some (nth t.mask (stp t (tupleKeyHash kd k) c) (m + 1))) (c + (m + 1)) (by omega) (by omega) (by rw [stp_on]; rfl)
      have others : ∀ y ∈ List.map (fun x => x.snd) (Array.filter (fun x => x.fst == tupleKeyHash kd k) es).toList, ∃ c js, y = Value.ref c ∧ IsTupleKey kd s.heap js c := fun y hy => by
        obtain ⟨z, hz, rfl⟩ := List.mem_map.mp hy
        have hz2 : z ∈ es.toList := by
          have := Array.mem_filter.mp (Array.mem_toList_iff.mp hz)
          exact Array.mem_toList_iff.mpr this.1
        rw [B.ent] at hz2
        obtain ⟨u, hu2, rfl⟩ := List.mem_map.mp hz2
        exact ⟨u.1, u.2, rfl, B.mem u hu2⟩
      split
      · refine wpAny_bind (unseen mx others ?_)
        simp only [Bool.false_eq_true, if_false]
        rw [ent]
        dsimp only
        refine wpAny_bind (wpAny_holding (wpAny_eqBool_tuple hu (B.mem e eL) mx ?_))
        rw [ke]
        refine wpAny_bind (wpAny_setState_of look dat B.fits ?_)
        simp only [Bool.and_false, Bool.false_eq_true, if_false, mem, if_true, sl, ent]
        refine wpAny_bind (wpAny_isSame_ref_self ?_)
        simp only [if_true, pure_bind]
        exact on
      · rw [ent]
        dsimp only
        refine wpAny_bind (wpAny_holding (wpAny_eqBool_tuple hu (B.mem e eL) mx ?_))
        rw [ke]
        refine wpAny_bind (wpAny_setState_of look dat B.fits ?_)
        simp only [Bool.and_false, Bool.false_eq_true, if_false, mem, if_true, sl, ent]
        refine wpAny_bind (wpAny_isSame_ref_self ?_)
        simp only [if_true, pure_bind]
        exact on
    · obtain rfl := hpr.symm.trans got
      rw [stp_on, stp_way, e1]
      exact wpAny_pure q
end
end RR
set_option maxHeartbeats 4000000
namespace RR
open PySem PySem.Spec PyProof.Rows L2
section
variable {P : Program} {w : World} {A : Around} {E : Value → Shared → Prop} {s : Shared} {T : Type} [DecidableEq T] {kd : KeyKind P w T}
variable {a : Addr} {L : List (Addr × List T)} {es : Array (Int × Value)} {ep : Nat} {t : SetTable}
theorem lacks (B : BagAt kd s.heap a L es ep t) {x : Addr} {k : List T} (mx : IsTupleKey kd s.heap k x) (hu : A.units < cLine) (nk : ∀ e ∈ L, e.2 ≠ k) {Q : SetFound → Shared → Prop}
    (q : ∀ C, way t.mask (tupleKeyHash kd k) C ∉ t.place.toList → (∀ c, c < C → way t.mask (tupleKeyHash kd k) c ∈ t.place.toList) → Q (.free (way t.mask (tupleKeyHash kd k) C) false) s) :
    wpAny (model P w) A (setSearch a (.ref x) (tupleKeyHash kd k) true) Q E s := by
  have sp := B.spare
  obtain ⟨C, near, free, taken⟩ := TabOk.first B.tab (by simp only [List.length_map]; omega) (tupleKeyHash kd k)
  have lim : C < 100000 := by
    have := B.tab.mok
    unfold MaskOk at this
    unfold SetTable.turns at near
    omega
  exact seek B mx hu nk free taken near (q C free taken) C 100000 none 0 (Nat.zero_add C) lim rfl
/-- a member stays where the set alone changes -/
theorem member_stays {h h' : Heap} {ks : List T} {b : Addr} {o : Obj} (m : IsTupleKey kd h ks b) (look : h.get? a = some o) (dat : o.data = .set es ep t) (rest : Heap.SameBut a h h') : IsTupleKey kd h' ks b := by
  obtain ⟨o2, its, cnt, look2, tup, dat2, are⟩ := m
  have ne : b ≠ a := fun z => by
    rw [z, look] at look2
    cases look2
    rw [dat] at dat2
    cases dat2
  exact ⟨o2, its, cnt, by rw [rest.2 b ne]; exact look2, tup, dat2, are⟩
theorem pick_all {α : Type} : ∀ l : List α, (List.range l.length).filterMap (fun i => l[i]?) = l
  | [] => rfl
  | x :: r => by
    rw [List.length_cons, List.range_succ_eq_map]
    show x :: ((List.range r.length).map Nat.succ).filterMap (fun i => (x :: r)[i]?) = x :: r
    rw [List.filterMap_map]
    congr 1
    exact pick_all r
theorem pick_map {α β : Type} {f : Nat → Option α} {g : Nat → β} {φ : α → β} : ∀ {l : List Nat}, (∀ i ∈ l, ∃ y, f i = some y ∧ g i = φ y) → l.map g = (l.filterMap f).map φ
  | [], _ => rfl
  | i :: r, h => by
    obtain ⟨y, e, e2⟩ := h i (.head _)
    rw [List.map_cons, List.filterMap_cons_some e, List.map_cons, e2, pick_map fun j hj => h j (.tail _ hj)]
theorem pick_perm' {α : Type} {l : List α} {ord : List Nat} (p : ord.Perm (List.range l.length)) : (ord.filterMap fun i => l[i]?).Perm l := by
  have := p.filterMap fun i => l[i]?
  rwa [pick_all] at this
/-- the table laid anew, with more room -/
theorem relays {o : Obj} (look : s.heap.get? a = some o) (ex : o.ExactSet) (dat : o.data = .set es ep t) (ent : es.toList = L.map fun e => (tupleKeyHash kd e.2, Value.ref e.1)) (fit : t.fits es.size = true) (dis : (L.map fun e => e.2).Nodup)
    (mem : ∀ e ∈ L, IsTupleKey kd s.heap e.2 e.1) (led : t.led = true ∨ w.params.followText "set-order" = true) (less : L.length < 77) {wanted M : Nat} (eM : SetTable.sizeAbove wanted - 1 = M) (okM : MaskOk M) (small : SetTable.sizeAbove wanted ≤ 128) (spare : 5 * L.length < 3 * M)
    {Q : Unit → Shared → Prop} (q : ∀ h' L' es' ep' t', Heap.SameBut a s.heap h' → BagAt kd h' a L' es' ep' t' → L'.Perm L → Q () { s with heap := h' }) : wpAny (model P w) A (setRelay a wanted) Q E s := by
  have cnt : es.size = L.length := by rw [← Array.length_toList, ent, List.length_map]
  obtain ⟨t', ord, laid, perm, tab, m', l', _, _⟩ := relaid_ok t (hs := es.map fun e => e.1) (wanted := wanted) eM okM (by rw [Array.size_map, cnt]; omega)
  rw [Array.size_map, cnt] at perm
  have pL := pick_perm' (l := L) perm
  have ent' : (ord.filterMap fun i => es[i]?).toList = (ord.toList.filterMap fun i => L[i]?).map fun e => (tupleKeyHash kd e.2, Value.ref e.1) := by
    rw [Array.toList_filterMap, List.map_filterMap]
    congr 1
    funext i
    rw [← Array.getElem?_toList, ent, List.getElem?_map]
  have hashes : (ord.toList.map fun i => (es.map fun e => e.1).getD i 0) = (ord.toList.filterMap fun i => L[i]?).map fun e => tupleKeyHash kd e.2 := by
    refine pick_map fun i hi => ?_
    have il : i < L.length := List.mem_range.mp (perm.mem_iff.mp hi)
    have e1 : es[i]? = some (tupleKeyHash kd L[i].2, Value.ref L[i].1) := by rw [← Array.getElem?_toList, ent, List.getElem?_map, List.getElem?_eq_getElem il, Option.map_some]
    refine ⟨L[i], List.getElem?_eq_getElem il, ?_⟩
    rw [Array.getD_eq_getD_getElem?, Array.getElem?_map, e1]
    rfl
  have cnt' : (ord.filterMap fun i => es[i]?).size = es.size := by rw [← Array.length_toList, ent', List.length_map, pL.length_eq, cnt]
  rw [setRelay_eq]
  refine wpAny_bind (wpAny_setState_of look dat fit ?_)
  dsimp only
  rw [if_neg (by rw [sizeLine_eq]; omega), laid]
  dsimp only
  rw [if_neg (by rw [cnt']; simp)]
  simp only [pure_bind]
  refine wpAny_storeSet_of look dat ?_ (by rw [cnt', cnt, sizeLine_eq]; omega)
  have rest : Heap.SameBut a s.heap (s.heap.update a (Obj.putSet (ord.filterMap fun i => es[i]?) t')) := Heap.SameBut.update ..
  refine q _ (ord.toList.filterMap fun i => L[i]?) _ (ep + 1) t' rest ⟨⟨_, store_at look dat, ⟨ex.1, ex.2.1, ex.2.2⟩, rfl⟩, ent', by rw [← hashes]; exact tab, ?_, fun e he => member_stays (mem e (pL.mem_iff.mp he)) look dat rest, by rw [l']; exact led, by rw [pL.length_eq, m']; exact spare, by rw [pL.length_eq]; exact less⟩ pL
  exact ((pL.map fun e => e.2).nodup_iff).mpr dis
/-- what a table is, whether it is marked or not -/
theorem marked {hs : List Int} (T : TabOk t hs) (r : Bool) : TabOk (if r = true then t else { t with plain := false }) hs ∧ (if r = true then t else { t with plain := false }).mask = t.mask ∧ (if r = true then t else { t with plain := false }).led = t.led ∧ (if r = true then t else { t with plain := false }).fill = t.fill := by
  cases r
  · exact ⟨⟨T.ris, T.dm, T.sz, T.mok, T.bd, T.reach⟩, rfl, rfl, rfl⟩
  · exact ⟨T, rfl, rfl, rfl⟩
theorem ins_perm {α : Type} (l : List α) (p : Nat) (x : α) : (l.take p ++ x :: l.drop p).Perm (x :: l) :=
  (List.perm_middle (l₁ := l.take p) (l₂ := l.drop p)).trans (by rw [List.take_append_drop])
theorem adds (B : BagAt kd s.heap a L es ep t) {x : Addr} {k : List T} (mx : IsTupleKey kd s.heap k x) (hu : A.units < cLine) (nk : ∀ e ∈ L, e.2 ≠ k) (few : L.length + 1 < 77) {Q : Bool → Shared → Prop}
    (q : ∀ h' L' es' ep' t', Heap.SameBut a s.heap h' → BagAt kd h' a L' es' ep' t' → L'.Perm ((x, k) :: L) → Q true { s with heap := h' }) : wpAny (model P w) A (setAddHashed a (.ref x) (tupleKeyHash kd k)) Q E s := by
  obtain ⟨o, look, ex, dat⟩ := B.obj
  have cnt := B.count
  have sp := B.spare
  unfold setAddHashed
  refine wpAny_holding ?_
  show wpAny _ _ (setAddHashedIn a (.ref x) (tupleKeyHash kd k) (99999 + 1)) _ _ _
  rw [setAddHashedIn]
  refine wpAny_bind (wpAny_setState_of look dat B.fits ?_)
  dsimp only
  rw [if_neg (by simp [byScan, Value.scannable])]
  refine wpAny_bind (lacks B mx hu nk fun C free taken => ?_)
  dsimp only
  refine wpAny_bind (wpAny_setState_of look dat B.fits ?_)
  dsimp only
  obtain ⟨at_, in_, tab1, mask1, led1, _, _, _, fill1⟩ := TabOk.put B.tab free taken
  generalize t.put (way t.mask (tupleKeyHash kd k) C) = pt at at_ tab1 mask1 led1 fill1 ⊢
  obtain ⟨t1, p⟩ := pt
  dsimp only at at_ tab1 mask1 led1 fill1 ⊢
  rw [← at_] at in_ tab1
  clear at_
  have pm := ins_perm L p (x, k)
  have ent1 : (SetTable.insertAt es p (tupleKeyHash kd k, Value.ref x)).toList = (L.take p ++ (x, k) :: L.drop p).map fun e => (tupleKeyHash kd e.2, Value.ref e.1) := by
    rw [SetTable.toList_insertAt, B.ent, List.map_append, List.map_cons, List.map_take, List.map_drop]
  have hs1 : (L.map fun e => tupleKeyHash kd e.2).take p ++ tupleKeyHash kd k :: (L.map fun e => tupleKeyHash kd e.2).drop p = (L.take p ++ (x, k) :: L.drop p).map fun e => tupleKeyHash kd e.2 := by
    rw [List.map_append, List.map_cons, List.map_take, List.map_drop]
  rw [hs1] at tab1
  generalize L.take p ++ (x, k) :: L.drop p = L1 at pm ent1 tab1
  have n1 : L1.length = L.length + 1 := pm.length_eq
  have dis1 : (L1.map fun e => e.2).Nodup := by
    refine ((pm.map fun e => e.2).nodup_iff).mpr (List.nodup_cons.mpr ⟨fun m => ?_, B.dis⟩)
    obtain ⟨e, he, ee⟩ := List.mem_map.mp m
    exact nk e he ee
  have cnt1 : (SetTable.insertAt es p (tupleKeyHash kd k, Value.ref x)).size = L.length + 1 := by rw [← Array.length_toList, ent1, List.length_map, n1]
  generalize SetTable.insertAt es p (tupleKeyHash kd k, Value.ref x) = es1 at ent1 cnt1 ⊢
  split
  · refine wpAny_bind (member_hash mx fun r => ?_)
    obtain ⟨T2, m2, l2, f2⟩ := marked tab1 r
    generalize (if r = true then t1 else { t1 with plain := false }) = t2 at T2 m2 l2 f2 ⊢
    refine wpAny_bind (wpAny_storeSet_of look dat ?_ (by rw [cnt1, sizeLine_eq]; omega))
    have rest : Heap.SameBut a s.heap (s.heap.update a (Obj.putSet es1 t2)) := Heap.SameBut.update ..
    have look1 := store_at (es' := es1) (t' := t2) look dat
    generalize s.heap.update a (Obj.putSet es1 t2) = h1 at rest look1 ⊢
    have mem1 : ∀ e ∈ L1, IsTupleKey kd h1 e.2 e.1 := fun e he => by
      rcases List.mem_cons.mp (pm.mem_iff.mp he) with rfl | m
      · exact member_stays mx look dat rest
      · exact member_stays (B.mem e m) look dat rest
    have led2 : t2.led = true ∨ w.params.followText "set-order" = true := by rw [l2, led1]; exact B.led
    rw [fill1, List.length_map] at f2
    by_cases full : t2.tooFull = true
    · rw [if_pos (by simp only [full, Bool.not_false, Bool.and_true])]
      have ge : 5 * (L.length + 1) ≥ 3 * t.mask := by
        unfold SetTable.tooFull at full
        have := of_decide_eq_true full
        rw [f2, m2, mask1] at this
        omega
      have fit1 : t2.fits es1.size = true := by
        have z := T2.sz
        rw [List.length_map, n1] at z
        unfold SetTable.fits
        simp only [Bool.and_eq_true, beq_iff_eq, decide_eq_true_eq]
        refine ⟨by rw [z, cnt1], ?_⟩
        rw [f2, m2, mask1]
        have := B.tab.mok
        unfold MaskOk at this
        omega
      have two : (L.length = 4 ∧ t.mask = 7) ∨ (L.length = 18 ∧ t.mask = 31) := by
        have := B.tab.mok
        unfold MaskOk at this
        omega
      refine wpAny_bind ?_
      rw [cnt]
      rcases two with ⟨n4, _⟩ | ⟨n4, _⟩
      · refine relays (s := { s with heap := h1 }) (M := 31) look1 ⟨ex.1, ex.2.1, ex.2.2⟩ rfl ent1 fit1 dis1 mem1 led2 (by omega) (by rw [n4, size_20]) (.inr (.inl rfl)) (by rw [n4, size_20]; decide) (by omega) fun h' L' es' ep' t' sb B' pm' => ?_
        exact wpAny_pure (q h' L' es' ep' t' (rest.trans sb) B' (pm'.trans pm))
      · refine relays (s := { s with heap := h1 }) (M := 127) look1 ⟨ex.1, ex.2.1, ex.2.2⟩ rfl ent1 fit1 dis1 mem1 led2 (by omega) (by rw [n4, size_76]) (.inr (.inr rfl)) (by rw [n4, size_76]; decide) (by omega) fun h' L' es' ep' t' sb B' pm' => ?_
        exact wpAny_pure (q h' L' es' ep' t' (rest.trans sb) B' (pm'.trans pm))
    · rw [if_neg (by rw [Bool.eq_false_iff.mpr full]; decide)]
      refine wpAny_pure (q h1 L1 es1 (ep + 1) t2 rest ⟨⟨_, look1, ⟨ex.1, ex.2.1, ex.2.2⟩, rfl⟩, ent1, T2, dis1, mem1, led2, ?_, by omega⟩ pm)
      have nf : ¬ (t2.fill * 5 ≥ t2.mask * 3) := fun z => full (decide_eq_true z)
      rw [f2, m2, mask1] at nf
      rw [n1, m2, mask1]
      omega
  · rw [pure_bind]
    obtain ⟨T2, m2, l2, f2⟩ := marked tab1 true
    generalize (if true = true then t1 else { t1 with plain := false }) = t2 at T2 m2 l2 f2 ⊢
    refine wpAny_bind (wpAny_storeSet_of look dat ?_ (by rw [cnt1, sizeLine_eq]; omega))
    have rest : Heap.SameBut a s.heap (s.heap.update a (Obj.putSet es1 t2)) := Heap.SameBut.update ..
    have look1 := store_at (es' := es1) (t' := t2) look dat
    generalize s.heap.update a (Obj.putSet es1 t2) = h1 at rest look1 ⊢
    have mem1 : ∀ e ∈ L1, IsTupleKey kd h1 e.2 e.1 := fun e he => by
      rcases List.mem_cons.mp (pm.mem_iff.mp he) with rfl | m
      · exact member_stays mx look dat rest
      · exact member_stays (B.mem e m) look dat rest
    have led2 : t2.led = true ∨ w.params.followText "set-order" = true := by rw [l2, led1]; exact B.led
    rw [fill1, List.length_map] at f2
    by_cases full : t2.tooFull = true
    · rw [if_pos (by simp only [full, Bool.not_false, Bool.and_true])]
      have ge : 5 * (L.length + 1) ≥ 3 * t.mask := by
        unfold SetTable.tooFull at full
        have := of_decide_eq_true full
        rw [f2, m2, mask1] at this
        omega
      have fit1 : t2.fits es1.size = true := by
        have z := T2.sz
        rw [List.length_map, n1] at z
        unfold SetTable.fits
        simp only [Bool.and_eq_true, beq_iff_eq, decide_eq_true_eq]
        refine ⟨by rw [z, cnt1], ?_⟩
        rw [f2, m2, mask1]
        have := B.tab.mok
        unfold MaskOk at this
        omega
      have two : (L.length = 4 ∧ t.mask = 7) ∨ (L.length = 18 ∧ t.mask = 31) := by
        have := B.tab.mok
        unfold MaskOk at this
        omega
      refine wpAny_bind ?_
      rw [cnt]
      rcases two with ⟨n4, _⟩ | ⟨n4, _⟩
      · refine relays (s := { s with heap := h1 }) (M := 31) look1 ⟨ex.1, ex.2.1, ex.2.2⟩ rfl ent1 fit1 dis1 mem1 led2 (by omega) (by rw [n4, size_20]) (.inr (.inl rfl)) (by rw [n4, size_20]; decide) (by omega) fun h' L' es' ep' t' sb B' pm' => ?_
        exact wpAny_pure (q h' L' es' ep' t' (rest.trans sb) B' (pm'.trans pm))
      · refine relays (s := { s with heap := h1 }) (M := 127) look1 ⟨ex.1, ex.2.1, ex.2.2⟩ rfl ent1 fit1 dis1 mem1 led2 (by omega) (by rw [n4, size_76]) (.inr (.inr rfl)) (by rw [n4, size_76]; decide) (by omega) fun h' L' es' ep' t' sb B' pm' => ?_
        exact wpAny_pure (q h' L' es' ep' t' (rest.trans sb) B' (pm'.trans pm))
    · rw [if_neg (by rw [Bool.eq_false_iff.mpr full]; decide)]
      refine wpAny_pure (q h1 L1 es1 (ep + 1) t2 rest ⟨⟨_, look1, ⟨ex.1, ex.2.1, ex.2.2⟩, rfl⟩, ent1, T2, dis1, mem1, led2, ?_, by omega⟩ pm)
      have nf : ¬ (t2.fill * 5 ≥ t2.mask * 3) := fun z => full (decide_eq_true z)
      rw [f2, m2, mask1] at nf
      rw [n1, m2, mask1]
      omega
end
end RR
set_option maxHeartbeats 4000000
namespace RR
open PySem PySem.Spec PyProof.Rows L2
section
variable {P : Program} {w : World} {A : Around} {E : Value → Shared → Prop} {T : Type} [DecidableEq T] {kd : KeyKind P w T}
theorem member_kept {h h' : Heap} {ks : List T} {b : Addr} (m : IsTupleKey kd h ks b) (keep : ∀ c o, h.get? c = some o → h'.get? c = some o) : IsTupleKey kd h' ks b := by
  obtain ⟨o, its, cnt, look, more⟩ := m
  exact ⟨o, its, cnt, keep b o look, more⟩
theorem BagAt.kept {h h' : Heap} {a : Addr} {L : List (Addr × List T)} {es : Array (Int × Value)} {ep : Nat} {t : SetTable} (B : BagAt kd h a L es ep t) (same : ∀ o, h.get? a = some o → h'.get? a = some o) (mem : ∀ e ∈ L, IsTupleKey kd h' e.2 e.1) : BagAt kd h' a L es ep t := by
  obtain ⟨o, look, more⟩ := B.obj
  exact { B with obj := ⟨o, same o look, more⟩, mem := mem }
theorem no_members {h : Heap} {a : Addr} (look : h.get? a = some { cls := .type "set", dict := none, data := .set #[] 0 (.fresh 0 0 (!w.params.followText "set-order")) }) : BagAt kd h a [] #[] 0 (.fresh 0 0 (!w.params.followText "set-order")) where
  obj := ⟨_, look, ⟨rfl, rfl, rfl⟩, rfl⟩
  ent := rfl
  tab := ⟨by unfold Ris; exact .nil, rfl, rfl, .inl rfl, (fun x hx => nomatch hx), fun i h j e => by cases e⟩
  dis := .nil
  mem := fun e he => nomatch he
  led := by
    show (!w.params.followText "set-order") = true ∨ _
    cases w.params.followText "set-order"
    · exact .inl rfl
    · exact .inr rfl
  spare := by show 0 < 21; decide
  less := by show 0 < 77; decide
/-- all of a list's tuples, each unlike the others, are put in one by one -/
theorem puts_all {I S : Addr} {fp wr : List Addr} {G : Array GenState → Array GenState → Prop} {n : Nat} {Pv : Nat → Value → Prop} {St : Nat → Shared → Prop} {R : Result → Shared → Prop} (W : WalksS P w A.in1 I fp wr G n Pv St) (aside : S ∉ fp)
    {ks : List (Addr × List T)} (len : ks.length = n) (few : n < 77) (is : ∀ i v, Pv i v → ∃ e, ks[i]? = some e ∧ v = .ref e.1) (dis : (ks.map fun e => e.2).Nodup) {h0 : Heap} (mem : ∀ e ∈ ks, IsTupleKey kd h0 e.2 e.1) (newS : h0.get? S = none) (newW : ∀ b ∈ wr, h0.get? b = none) (hu : A.in1.units < cLine) :
    ∀ (m i : Nat) (s : Shared), i + m = n → St i s → (∀ b o, h0.get? b = some o → s.heap.get? b = some o) → (∃ L es ep t, BagAt kd s.heap S L es ep t ∧ L.Perm (ks.take i)) →
      (∀ s' L es ep t, BagAt kd s'.heap S L es ep t → L.Perm ks → (∀ b o, h0.get? b = some o → s'.heap.get? b = some o) → Moved (S :: wr) G s s' → R (.ok (.ret .none)) s') →
      codeAny (model P w) A (.builtin "set.update.loop" ⟨[.ref S, .ref I], []⟩) R s := by
  have outW : S ∉ wr := fun z => aside (W.sub S z)
  have more : ∀ b ∈ wr, b ∈ S :: wr := fun b z => .tail _ z
  have stays : ∀ {z z' : Shared}, Moved wr G z z' → (∀ b o, h0.get? b = some o → z.heap.get? b = some o) → ∀ b o, h0.get? b = some o → z'.heap.get? b = some o := fun mv keep b o e =>
    mv.heap b o (fun z => by have := newW b z; rw [e] at this; cases this) (keep b o e)
  intro m
  induction m with
  | zero =>
    intro i s im st keep bag fin
    obtain ⟨L, es, ep, t, B, pm⟩ := bag
    obtain rfl : i = n := im
    refine codeAny_builtin PyProof.Rows.F.entry_set_update_loop ?_
    rw [Around.under_plainId PyProof.Rows.F.plain_set_update_loop]
    unfold Builtin.«set.update.loop»
    dsimp only
    refine wpAny_bind (W.done s _ _ st fun s' mv => ?_)
    have keep' := stays mv keep
    have all : ks.take i = ks := List.take_of_length_le (Nat.le_of_eq len)
    rw [all] at pm
    exact wpAny_pure (fin s' L es ep t (B.kept (fun o e => mv.heap S o outW e) fun e he => member_kept (mem e (pm.mem_iff.mp he)) keep') pm keep' (mv.mono more))
  | succ m ih =>
    intro i s im st keep bag fin
    obtain ⟨L, es, ep, t, B, pm⟩ := bag
    refine codeAny_builtin PyProof.Rows.F.entry_set_update_loop ?_
    rw [Around.under_plainId PyProof.Rows.F.plain_set_update_loop]
    unfold Builtin.«set.update.loop»
    dsimp only
    refine wpAny_bind (W.item i s _ _ (by omega) st fun v s' pv st' mv => ?_)
    obtain ⟨⟨x, k⟩, at_i, rfl⟩ := is i v pv
    have keep' := stays mv keep
    have il : i < ks.length := by omega
    have mk : IsTupleKey kd s'.heap k x := member_kept (mem _ (List.mem_of_getElem? at_i)) keep'
    have nxt : ks.take (i + 1) = ks.take i ++ [(x, k)] := by rw [List.take_add_one, at_i]; rfl
    have B' : BagAt kd s'.heap S L es ep t := B.kept (fun o e => mv.heap S o outW e) fun e he => member_kept (mem e (List.mem_of_mem_take (pm.mem_iff.mp he))) keep'
    have unlike : ∀ e ∈ L, e.2 ≠ k := fun e he z => by
      have nd : ((ks.take i ++ [(x, k)]).map fun e => e.2).Nodup := by
        rw [← nxt, List.map_take]
        exact List.Nodup.sublist (List.take_sublist _ _) dis
      rw [List.map_append, List.nodup_append] at nd
      exact nd.2.2 k (List.mem_map.mpr ⟨e, pm.mem_iff.mp he, z⟩) k (List.mem_singleton.mpr rfl) rfl
    have cnt : L.length = i := by rw [pm.length_eq, List.length_take]; omega
    unfold setAdd
    refine wpAny_bind (wpAny_holding (wpAny_holding (wpAny_bind (wpAny_pyHash_tuple hu mk ?_))))
    refine adds (s := { s' with toks := s'.toks + (k.length + 1) }) B' mk hu unlike (by omega) fun h' L' es' ep' t' sb B2 pm2 => ?_
    have keep2 : ∀ b o, h0.get? b = some o → h'.get? b = some o := fun b o e => (sb.2 b fun z => by rw [z, newS] at e; cases e).trans (keep' b o e)
    have pm3 : L'.Perm (ks.take (i + 1)) := by
      rw [nxt]
      exact pm2.trans ((pm.cons _).trans (List.perm_append_singleton _ _).symm)
    refine wpAny_pure ⟨plainId_quiet PyProof.Rows.F.plain_set_update_loop _, ih (i + 1) _ (by omega) (W.frame (i + 1) s' h' _ st' (Nat.le_add_right _ _) fun b hb o e => ?_) keep2 ⟨L', es', ep', t', B2, pm3⟩ fun s2 L2 es2 ep2 t2 B3 pm4 keep3 mv2 => ?_⟩
    · rw [sb.2 b fun z => aside (z ▸ hb)]
      exact e
    · refine fin s2 L2 es2 ep2 t2 B3 pm4 keep3 (Moved.trans W.gtrans (Moved.then_heap (mv.mono more) (Nat.le_add_right _ _) fun b o nb e => ?_) mv2)
      rw [sb.2 b fun z => nb (z ▸ .head _)]
      exact e
/-- a set that has nothing yet -/
abbrev noneYet (w : World) : Obj := { cls := .type "set", dict := none, data := .set #[] 0 (.fresh 0 0 (!w.params.followText "set-order")) }
variable {s : Shared}
theorem makes_set {l : Addr} {ks : List (Addr × List T)} {Q : Value → Shared → Prop} (calm : A.handled = none) (isl : s.heap.IsList l (ks.map fun e => Value.ref e.1).toArray) (mem : ∀ e ∈ ks, IsTupleKey kd s.heap e.2 e.1) (dis : (ks.map fun e => e.2).Nodup) (few : ks.length < 77) (hu : A.units + 3 < cLine)
    (q : ∀ h' tk L es ep t, BagAt kd h' s.heap.objs.size L es ep t → L.Perm ks → (∀ b o, s.heap.get? b = some o → h'.get? b = some o) → Q (.ref s.heap.objs.size) { s with heap := h', toks := tk }) : wpAny (model P w) A (call (.type "set") [.ref l]) Q E s := by
  obtain ⟨_, _, line⟩ := F.called_set.mro
  have f1 := F.called_set.made
  have f2 := F.called_set.sub
  have f3 := F.called_set.notType
  have f4 := F.called_set.canCreate
  have f5 := F.typeCall_set_1 (.ref l)
  refine wpAny_call (codeAny_of_tree ?_)
  show wpAny _ _ (callAny (.type "set") _) _ _ _
  refine wpAny_pure ⟨Code.quiet_builtin _ (by decide +kernel), codeAny_builtin F.entry_type_call ?_⟩
  rw [Around.under_plain (weight_type_call_type "set" [.ref l] []) rfl]
  repeat any_goals first | assumption | wp_step
  refine codeAny_mono (code_set_led1 (.ref l) (E := E) (Q₁ := fun ob z => ob = .ref s.heap.objs.size ∧ z = { s with heap := s.heap.push (noneYet w) }) ⟨rfl, rfl⟩) fun r z hz => ?_
  match r, hz with
  | .ok (.ret ob), hz =>
    obtain ⟨rfl, rfl⟩ := hz
    have lookS : (s.heap.push (noneYet w)).get? s.heap.objs.size = some (noneYet w) := Heap.get?_push_size _ rfl
    have isSet : Shared.TypeIs { s with heap := s.heap.push (noneYet w) } (.ref s.heap.objs.size) "set" := ⟨_, lookS, rfl⟩
    have g1 := F.called_set.init.lookup
    have g2 := F.called_set.init.bind (.ref s.heap.objs.size)
    dsimp only
    repeat any_goals first | assumption | wp_step
    refine codeAny_mono (codeAny_call_builtin (R := wants (fun v z => v = .none ∧ ∃ h' tk L es ep t, z = { s with heap := h', toks := tk } ∧ BagAt kd h' s.heap.objs.size L es ep t ∧ L.Perm ks ∧ ∀ b o, s.heap.get? b = some o → h'.get? b = some o) E) F.called_set.init.plain F.entry_set_init (check_set_init_1 isSet ?_)) fun r2 z2 hz2 => ?_
    · obtain ⟨ol, lookL, clsL, nL, datL⟩ := isl
      obtain ⟨c1, d1, dt1, sl1⟩ := ol
      obtain rfl : c1 = .type "list" := clsL
      obtain rfl : dt1 = .seq (ks.map fun e => Value.ref e.1).toArray nL := datL
      have lookL2 : (s.heap.push (noneYet w)).get? l = some { cls := .type "list", dict := d1, data := .seq (ks.map fun e => Value.ref e.1).toArray nL, slots := sl1 } := Heap.get?_push_of_some _ lookL
      have u1 := F.sub_list_set
      have u2 := F.sub_list_frozenset
      have u3 : (Value.type "list" == Value.type "dict") = false := rfl
      have isL2 : (s.heap.push (noneYet w)).IsList l (ks.map fun e => Value.ref e.1).toArray := ⟨_, lookL2, rfl, nL, rfl⟩
      unfold Builtin.«set.__init__» noKeywords Builtin.Frozenset.updateFrom
      generalize hit : pyIter = it
      wp_walk
      subst hit
      refine wpAny_pyIter_list isL2 ?_
      refine wpAny_bind (wpAny_runValue ?_)
      have below : l < s.heap.objs.size := Heap.lt_size lookL
      have sz : (s.heap.push (noneYet w)).objs.size = s.heap.objs.size + 1 := Heap.size_push ..
      have calm3 : A.in1.in1.in1.handled = none := by simp [calm]
      have none_at : ∀ b, s.heap.objs.size ≤ b → s.heap.get? b = none := fun b hb => by
        cases e : s.heap.get? b with
        | none => rfl
        | some o => exact (Nat.lt_irrefl b (Nat.lt_of_lt_of_le (Heap.lt_size e) hb)).elim
      refine puts_all (ks := ks) (h0 := s.heap) ((Walks.list calm3 _ l (by rw [sz]; exact Nat.ne_of_lt (Nat.lt_succ_of_lt below)) (ks.map fun e => Value.ref e.1).toArray).toS) (by rw [sz]; simp only [List.mem_cons, List.not_mem_nil, or_false]; exact fun z => z.elim (Nat.ne_of_lt (Nat.lt_succ_self _)) (Nat.ne_of_gt below)) (by simp) (by simpa using few) (fun i v hv => ?_) dis mem (none_at _ (Nat.le_refl _)) (fun b hb => none_at b (by rw [List.mem_singleton.mp hb, sz]; exact Nat.le_succ _)) (by show A.in1.in1.in1.units < cLine; exact hu) ks.length 0 _ (by simp) ⟨⟨_, Heap.get?_push_size _ rfl, rfl, rfl⟩, isL2.push _⟩ (fun b o e => Heap.get?_push_of_some _ (Heap.get?_push_of_some _ e)) ⟨[], #[], 0, _, no_members (Heap.get?_push_of_some _ lookS), by rw [List.take_zero]⟩ fun s' L es ep t B pm keep mv => ?_
      · rw [List.getElem?_toArray, List.getElem?_map] at hv
        obtain ⟨e, he, rfl⟩ := Option.map_eq_some_iff.mp hv
        exact ⟨e, he, rfl⟩
      · obtain ⟨h', g', d', tk', os'⟩ := s'
        obtain rfl : g' = s.gens := mv.gens
        obtain rfl : d' = s.drawn := mv.drawn
        obtain rfl : os' = s.os := mv.os
        refine wpAny_pure ?_
        exact wpAny_pure ⟨rfl, h', tk', L, es, ep, t, rfl, B, pm, keep⟩
    · match r2, hz2 with
      | .ok (.ret v), hz2 =>
        obtain ⟨rfl, h', tk, L, es, ep, t, rfl, B, pm, keep⟩ := hz2
        dsimp only
        repeat any_goals first | assumption | wp_step
        exact q h' tk L es ep t B pm keep
      | .error e, hz2 => exact hz2
      | .ok .next, hz2 => exact hz2.elim
      | .ok .brk, hz2 => exact hz2.elim
      | .ok .cont, hz2 => exact hz2.elim
  | .error e, hz => exact hz
  | .ok .next, hz => exact hz.elim
  | .ok .brk, hz => exact hz.elim
  | .ok .cont, hz => exact hz.elim
end
end RR
set_option maxHeartbeats 4000000
namespace RR
open PySem PySem.Spec PyProof.Rows L2
/-! ### whole numbers and texts as items of a member -/
def keyIs : Key → Value → Bool
  | .inl i, v => Value.isInt i v
  | .inr x, v => Value.isStrOf x v
theorem keyIs_int {i : Int} {v : Value} (h : keyIs (.inl i) v = true) : ∃ t, v = .int i t := Value.isInt_shape h
theorem keyIs_str {x : Str} {v : Value} (h : keyIs (.inr x) v = true) : ∃ t, v = .str x t := Value.isStrOf_shape h
def keyK (P : Program) (w : World) : PySem.KeyKind P w Key where
  is := keyIs
  hash := fun k => match k with
    | .inl i => hashInt i
    | .inr x => hashStr w x
  inj := fun v a b ha hb => by
    rcases a with i | x <;> rcases b with j | y
    · rw [Value.isInt_inj v i j ha hb]
    · obtain ⟨t, rfl⟩ := keyIs_int ha; cases hb
    · obtain ⟨t, rfl⟩ := keyIs_str ha; cases hb
    · rw [Value.isStrOf_inj v x y ha hb]
  byValue := fun k v h => by
    rcases k with i | x
    · obtain ⟨t, rfl⟩ := keyIs_int h; rfl
    · obtain ⟨t, rfl⟩ := keyIs_str h; rfl
  pyHash := fun {A E s k v Q} hv h => by
    rcases k with i | x
    · obtain ⟨t, rfl⟩ := keyIs_int hv; exact wpAny_pyHash_int h
    · obtain ⟨t, rfl⟩ := keyIs_str hv; exact wpAny_pyHash_str h
  eqBool := fun {A E s a b u v Q} hu hv h => by
    rcases a with i | x <;> rcases b with j | y
    · obtain ⟨t, rfl⟩ := keyIs_int hu
      obtain ⟨r, rfl⟩ := keyIs_int hv
      refine wpAny_eqBool_int ?_
      rw [show (i == j) = decide (Sum.inl i = (Sum.inl j : Key)) from by rw [Bool.eq_iff_iff]; simp]
      exact h
    · obtain ⟨t, rfl⟩ := keyIs_int hu
      obtain ⟨r, rfl⟩ := keyIs_str hv
      exact SeqAt.EqAt.int_str i t y r _ _ _ _ h
    · obtain ⟨t, rfl⟩ := keyIs_str hu
      obtain ⟨r, rfl⟩ := keyIs_int hv
      exact SeqAt.EqAt.str_int x t j r _ _ _ _ h
    · obtain ⟨t, rfl⟩ := keyIs_str hu
      obtain ⟨r, rfl⟩ := keyIs_str hv
      refine wpAny_eqBool_str ?_
      rw [show decide (x = y) = decide (Sum.inr x = (Sum.inr y : Key)) from by rw [Bool.eq_iff_iff]; simp]
      exact h
  «strs» := fun k x t v h => by
    rcases k with i | y
    · cases h
    · obtain ⟨u, hu⟩ := keyIs_str h
      cases hu
      cases v <;> rfl
/-- the order of such items, and of rows of them -/
def codeK (ks : List Key) : List (Int ⊕ List Nat) := ks.map fun k => match k with
  | .inl i => .inl i
  | .inr x => .inr x.cps.toList
def leK (a b : List Key) : Prop := (PyProof.Rows.listOrd PyProof.Rows.itemOrd).kle (codeK a) (codeK b)
/-- where texts stand, the same in all rows -/
def Shape (sh : Nat → Bool) (ks : List Key) : Prop := ks ≠ [] ∧ ∀ i k, ks[i]? = some k → sh i = k.isRight
section
variable {P : Program} {w : World} {A : Around} {E : Value → Shared → Prop} {s : Shared}
theorem items_code {sh : Nat → Bool} : ∀ {ks : List Key} {vs : List Value} {n : Nat}, PySem.ItemsAre (keyK P w) ks vs → (∀ i k, ks[i]? = some k → sh (n + i) = k.isRight) → PyProof.Rows.tupItems sh n vs = some (codeK ks) := by
  intro ks vs n h
  induction h generalizing n with
  | nil => intro _; rfl
  | @cons k v ks vs hk hr ih =>
    intro hs
    have h0 := hs 0 k rfl
    have hr2 := ih (n := n + 1) fun i j e => by rw [Nat.add_assoc, Nat.add_comm 1 i]; exact hs (i + 1) j e
    rcases k with i | x
    · obtain ⟨t, rfl⟩ := keyIs_int hk
      unfold PyProof.Rows.tupItems
      rw [if_neg (by rw [show sh n = false from h0]; decide), hr2]
      rfl
    · obtain ⟨t, rfl⟩ := keyIs_str hk
      unfold PyProof.Rows.tupItems
      rw [if_pos (show sh n = true from h0), hr2]
      rfl
theorem key_code {sh : Nat → Bool} {h : Heap} {ks : List Key} {b : Addr} (m : IsTupleKey (keyK P w) h ks b) (hs : Shape sh ks) : PyProof.Rows.G.tupKeyC h sh (.ref b) = some (codeK ks) := by
  obtain ⟨o, its, cnt, look, cls, dat, are⟩ := m
  unfold PyProof.Rows.G.tupKeyC PyProof.Rows.tupKey
  rw [if_pos (by unfold PyProof.Rows.G.isTupObj; dsimp only; rw [look]; dsimp only; rw [cls]; decide)]
  dsimp only
  rw [look]
  dsimp only
  rw [dat]
  exact items_code (n := 0) are fun i k e => by rw [Nat.zero_add]; exact hs.2 i k e
theorem first_tup {sh : Nat → Bool} {h : Heap} {ks : List Key} {b : Addr} (m : IsTupleKey (keyK P w) h ks b) (hs : Shape sh ks) : ∃ f, PyProof.Rows.TupOf h sh (.ref b) f := by
  obtain ⟨o, its, cnt, look, cls, dat, are⟩ := m
  cases ks with
  | nil => exact absurd rfl hs.1
  | cons k ks =>
    have h0 := hs.2 0 k rfl
    generalize ev : its.toList = vs at are
    cases are with
    | @cons _ v _ vs hk _ =>
      have e0 : its[0]? = some v := by rw [← Array.getElem?_toList, ev]; rfl
      refine ⟨v, b, o, its, cnt, rfl, look, cls, dat, e0, fun z => ?_, fun z => ?_⟩
      · rcases k with i | x
        · obtain ⟨t, rfl⟩ := keyIs_int hk; exact ⟨i, t, rfl⟩
        · rw [h0] at z; cases z
      · rcases k with i | x
        · rw [h0] at z; cases z
        · obtain ⟨t, rfl⟩ := keyIs_str hk; exact ⟨x, t, rfl⟩
theorem firsts {sh : Nat → Bool} {h : Heap} : ∀ {L : List (Addr × List Key)}, (∀ e ∈ L, IsTupleKey (keyK P w) h e.2 e.1 ∧ Shape sh e.2) → ∃ fs, PyProof.Rows.TupsOf h sh (L.map fun e => Value.ref e.1) fs
  | [], _ => ⟨[], .nil⟩
  | e :: L, hL => by
    obtain ⟨fs, r⟩ := firsts fun x hx => hL x (.tail _ hx)
    obtain ⟨f, t⟩ := first_tup (hL e (.head _)).1 (hL e (.head _)).2
    exact ⟨f :: fs, .cons t r⟩
/-- rows told again by their addresses, in another order -/
theorem told_again {L : List (Addr × List Key)} : ∀ {vs : List Value}, (∀ v ∈ vs, ∃ e ∈ L, v = Value.ref e.1) → ∃ L' : List (Addr × List Key), vs = L'.map (fun e => Value.ref e.1) ∧ ∀ e ∈ L', e ∈ L
  | [], _ => ⟨[], rfl, fun _ z => nomatch z⟩
  | v :: vs, hv => by
    obtain ⟨e, he, rfl⟩ := hv v (.head _)
    obtain ⟨L', e2, sub⟩ := told_again fun u hu => hv u (.tail _ hu)
    refine ⟨e :: L', by rw [e2]; rfl, fun x hx => ?_⟩
    rcases List.mem_cons.mp hx with rfl | hx
    · exact he
    · exact sub x hx
theorem again_perm {h : Heap} {L L' : List (Addr × List Key)} (mem : ∀ e ∈ L, IsTupleKey (keyK P w) h e.2 e.1) (dis : (L.map fun e => e.2).Nodup) (sub : ∀ e ∈ L', e ∈ L) (pm : (L'.map fun e => Value.ref e.1).Perm (L.map fun e => Value.ref e.1)) : L'.Perm L := by
  have uniq : ∀ x ∈ L, ∀ y ∈ L, Value.ref x.1 = Value.ref y.1 → x = y := fun x hx y hy e => by
    have e1 : x.1 = y.1 := by injection e
    have mx := mem x hx
    rw [e1] at mx
    exact Prod.ext e1 (IsTupleKey.inj mx (mem y hy))
  have ndL : L.Nodup := List.Pairwise.imp (fun hne e => hne (by rw [e])) (List.pairwise_map.mp dis)
  have ndR : (L.map fun e => Value.ref e.1).Nodup := List.pairwise_map.mpr (ndL.imp_of_mem fun hx hy hne e => hne (uniq _ hx _ hy e))
  have nd' : L'.Nodup := List.Pairwise.imp (fun hne e => hne (by rw [e])) (List.pairwise_map.mp (pm.nodup_iff.mpr ndR))
  refine (List.perm_ext_iff_of_nodup nd' ndL).mpr fun x => ⟨sub x, fun hx => ?_⟩
  obtain ⟨y, hy, e⟩ := List.mem_map.mp (pm.mem_iff.mpr (List.mem_map.mpr ⟨x, hx, rfl⟩))
  rwa [← uniq y (sub y hy) x hx e]
theorem zip_twin {α : Type} : ∀ {vs : List α} {p : α × α}, p ∈ vs.zip vs → p.1 = p.2 ∧ p.2 ∈ vs
  | [], _, h => by cases h
  | v :: vs, p, h => by
    rcases List.mem_cons.mp h with rfl | h
    · exact ⟨rfl, .head _⟩
    · exact ⟨(zip_twin h).1, .tail _ (zip_twin h).2⟩
theorem sorts_set {a : Addr} {L : List (Addr × List Key)} {es : Array (Int × Value)} {ep : Nat} {t : SetTable} {sh : Nat → Bool} {Q : Value → Shared → Prop} (B : BagAt (keyK P w) s.heap a L es ep t) (calm : A.handled = none) (shape : ∀ e ∈ L, Shape sh e.2)
    (q : ∀ s' p (out : Array Value) (c : Nat) (L' : List (Addr × List Key)), (∀ b o, s.heap.get? b = some o → s'.heap.get? b = some o) → s'.gens = s.gens → s'.os = s.os → s.heap.objs.size ≤ p → s'.heap.get? p = some (seqObj "list" out c) →
      out.toList = L'.map (fun e => Value.ref e.1) → L'.Perm L → L'.Pairwise (fun x y => leK x.2 y.2) → Q (.ref p) s') : wpAny (model P w) A (call (.builtin "sorted") [.ref a]) Q E s := by
  obtain ⟨o, look, ex, dat⟩ := B.obj
  have cnt := B.count
  have less := B.less
  refine Calls.call_function_entry kind_sorted plain_sorted entry_sorted (args_sorted1 _) ?_
  unfold Builtin.«sorted»
  refine wpAny_bind (m := checkCount "sorted" 1 1 _) (wpAny_pure ?_)
  refine wpAny_bind (collect_set (A := A.in1) calm ⟨o, look, ex.1, dat⟩ B.fits (by unfold scanBound; omega) B.tab.ris B.led.symm fun s1 vs keep1 sz1 g1 o1 pm1 => ?_)
  have ents : es.toList.map (fun e => e.2) = L.map fun e => Value.ref e.1 := by rw [B.ent, List.map_map]; rfl
  rw [ents] at pm1
  obtain ⟨L1, rfl, sub1⟩ := told_again fun v hv => by
    obtain ⟨e, he, ee⟩ := List.mem_map.mp (pm1.mem_iff.mp hv)
    exact ⟨e, he, ee.symm⟩
  have pL1 := again_perm B.mem B.dis sub1 pm1
  have n1 : L1.length = L.length := pL1.length_eq
  refine wpAny_bind (wpAny_newList ?_ (by rw [List.length_map, sizeLine_eq]; omega))
  have lookN : (s1.heap.push (seqObj "list" (L1.map fun e => Value.ref e.1).toArray 0)).get? s1.heap.objs.size = some (seqObj "list" (L1.map fun e => Value.ref e.1).toArray 0) := Heap.get?_push_size _ rfl
  have memN : ∀ e ∈ L1, IsTupleKey (keyK P w) (s1.heap.push (seqObj "list" (L1.map fun e => Value.ref e.1).toArray 0)) e.2 e.1 ∧ Shape sh e.2 := fun e he =>
    ⟨member_kept (B.mem e (sub1 e he)) fun b u z => Heap.get?_push_of_some _ (keep1 b u z), shape e (sub1 e he)⟩
  obtain ⟨fs, tups⟩ := firsts memN
  have codes : ∀ v ∈ L1.map fun e => Value.ref e.1, ∃ l, PyProof.Rows.G.tupKeyC (s1.heap.push (seqObj "list" (L1.map fun e => Value.ref e.1).toArray 0)) sh v = some l := fun v hv => by
    obtain ⟨e, he, rfl⟩ := List.mem_map.mp hv
    exact ⟨_, key_code (memN e he).1 (memN e he).2⟩
  refine wpAny_bind (wpAny_holding (wpAny_call_entry slot_list_sort ⟨_, lookN, rfl⟩ entry_list_sort (PyProof.Rows.G.list_sort_tups (s := { s1 with heap := s1.heap.push (seqObj "list" (L1.map fun e => Value.ref e.1).toArray 0) }) (shape := sh) lookN tups codes (by rw [List.length_map, sizeLine_eq]; omega) fun st' b1 b2 b3 => ⟨_, rfl, ?_⟩) (args_list_sort _)))
  generalize PyProof.Rows.arrOf st' = arr at b1 b2 b3 ⊢
  clear b3
  have b1' := Array.perm_iff_toList_perm.mp b1
  rw [PyProof.Rows.pairsOf_toList] at b1'
  have twin : ∀ p ∈ arr.toList, p.1 = p.2 ∧ ∃ e ∈ L1, p.2 = Value.ref e.1 := fun p hp => by
    obtain ⟨e1, m⟩ := zip_twin (b1'.mem_iff.mp hp)
    obtain ⟨e, he, ee⟩ := List.mem_map.mp m
    exact ⟨e1, e, he, ee.symm⟩
  obtain ⟨L2, e2, sub2⟩ := told_again (L := L1) (vs := (arr.map fun p => p.2).toList) fun v hv => by
    rw [Array.toList_map] at hv
    obtain ⟨p, hp, rfl⟩ := List.mem_map.mp hv
    exact (twin p hp).2
  have pL2 : L2.Perm L := by
    refine again_perm B.mem B.dis (fun e he => sub1 e (sub2 e he)) ?_
    rw [← e2, Array.toList_map]
    have z := b1'.map Prod.snd
    rw [List.map_snd_zip (by simp)] at z
    exact z.trans pm1
  obtain ⟨c, lookP⟩ := PyProof.Rows.sortedHeap_at (out := arr.map fun p => p.2) lookN
  refine wpAny_pure ⟨_, rfl, q _ s1.heap.objs.size (arr.map fun p => p.2) c L2 (fun b u z => ?_) g1 o1 sz1 lookP e2 pL2 ?_⟩
  · have lt := Heap.lt_size (keep1 b u z)
    show (PyProof.Rows.sortedHeap _ _ _ _).get? b = some u
    rw [PyProof.Rows.sortedHeap_old (Nat.ne_of_lt lt) (by rw [size_push']; exact Nat.lt_succ_of_lt lt)]
    exact Heap.get?_push_of_some _ (keep1 b u z)
  · have n2 : L2.length = L1.length := pL2.length_eq.trans n1.symm
    have at_ : ∀ (i : Nat) (hi : i < L2.length), PyProof.Rows.KK (PyProof.Rows.G.tupKindC (s1.heap.push (seqObj "list" (L1.map fun e => Value.ref e.1).toArray 0)) sh) arr i = codeK L2[i].2 := fun i hi => by
      have e3 : (arr.map fun p => p.2).toList[i]? = some (Value.ref L2[i].1) := by rw [e2, List.getElem?_map, List.getElem?_eq_getElem hi]; rfl
      rw [Array.toList_map, List.getElem?_map] at e3
      obtain ⟨p, ep, e4⟩ := Option.map_eq_some_iff.mp e3
      have ep2 : arr[i]? = some p := by rw [← Array.getElem?_toList]; exact ep
      have tw := (twin p (List.mem_of_getElem? ep)).1
      unfold PyProof.Rows.KK
      rw [ep2]
      dsimp only
      rw [tw, e4]
      have me := memN L2[i] (sub2 _ (List.getElem_mem hi))
      show (PyProof.Rows.G.tupKeyC _ sh (Value.ref L2[i].1)).getD _ = _
      rw [key_code me.1 me.2]
      rfl
    refine List.pairwise_iff_getElem.mpr fun i j hi hj lt => ?_
    have z := b2 i j (Nat.le_of_lt lt) (by rw [PyProof.Rows.pairsOf_size, List.length_map]; omega)
    rw [at_ i hi, at_ j hj] at z
    exact z
end
end RR
set_option maxHeartbeats 4000000
namespace RR
open PySem PySem.Spec PyProof.Rows L2
/-! ### sets of tuples of whole numbers and texts, as things that are told -/
/-- what the set's own object tells -/
structure Bag0 (P : Program) (w : World) (h : Heap) (a : Addr) (L : List (Addr × List Key)) : Prop where
  all : ∃ (es : Array (Int × Value)) (ep : Nat) (t : SetTable), (∃ o, h.get? a = some o ∧ (o.ExactSet ∧ o.data = .set es ep t)) ∧ (es.toList = L.map fun e => (tupleKeyHash (keyK P w) e.2, Value.ref e.1)) ∧ TabOk t (L.map fun e => tupleKeyHash (keyK P w) e.2) ∧ (L.map fun e => e.2).Nodup ∧
    (t.led = true ∨ w.params.followText "set-order" = true) ∧ 5 * L.length < 3 * t.mask ∧ L.length < 77
def BagO (P : Program) (w : World) (a : Addr) (L : List (Addr × List Key)) : HO := .ext fun h => Bag0 P w h a L
section
variable {P : Program} {w : World} {h : Heap} {a : Addr} {L : List (Addr × List Key)}
theorem BagAt.own {es : Array (Int × Value)} {ep : Nat} {t : SetTable} (B : BagAt (keyK P w) h a L es ep t) : Bag0 P w h a L := ⟨es, ep, t, B.obj, B.ent, B.tab, B.dis, B.led, B.spare, B.less⟩
theorem Bag0.whole (B : Bag0 P w h a L) (mem : ∀ e ∈ L, IsTupleKey (keyK P w) h e.2 e.1) : ∃ es ep t, BagAt (keyK P w) h a L es ep t := by
  obtain ⟨es, ep, t, z1, z2, z3, z4, z5, z6, z7⟩ := B.all
  exact ⟨es, ep, t, z1, z2, z3, z4, mem, z5, z6, z7⟩
theorem bag_told {H : Hp} (B : Bag0 P w h a L) : ObjOk P w H h a (BagO P w a L) := by
  obtain ⟨_, _, _, ⟨o, look, _⟩, _⟩ := B.all
  refine ⟨B, ⟨o, look⟩, fun g1 g2 (B1 : Bag0 P w g1 a L) same => ?_⟩
  obtain ⟨es, ep, t, ⟨u, look1, more⟩, rest⟩ := B1.all
  exact ⟨es, ep, t, ⟨u, same u look1, more⟩, rest⟩
theorem vals_items : ∀ {ks : List Key} {us : List Value}, Vals (ks.map kV) us → PySem.ItemsAre (keyK P w) ks us
  | [], _, .nil => .nil
  | .inl i :: ks, _, .cons r t => by
    obtain ⟨u, rfl⟩ := r
    exact .cons (show Value.isInt i (.int i u) = true by simp [Value.isInt]) (vals_items t)
  | .inr x :: ks, _, .cons r t => by
    obtain ⟨u, rfl⟩ := r
    exact .cons (show Value.isStrOf x (.str x u) = true by simp [Value.isStrOf]) (vals_items t)
theorem refs_valsW : ∀ {ks : List (Addr × List Key)} {us : List Value}, Vals (ks.map fun e => V.ref e.1) us → us = ks.map fun e => Value.ref e.1
  | [], _, .nil => rfl
  | e :: ks, _, .cons r t => by
    cases r
    rw [refs_valsW t]
    rfl
theorem vals_refsW : ∀ (ks : List (Addr × List Key)), Vals (ks.map fun e => V.ref e.1) (ks.map fun e => Value.ref e.1)
  | [] => .nil
  | _ :: ks => .cons rfl (vals_refsW ks)
end
section
variable {X : Cx}
theorem inv_member {pins : List (Addr × Obj)} {σ : L2.St} {H : Hp} {s : Shared} {b : Addr} {ks : List Key} (I : L2.Inv X pins σ H s) (h : SqT X.K H b (ks.map kV)) : IsTupleKey (keyK X.prog X.w) s.heap ks b := by
  obtain ⟨its, rv, ⟨o, look, cls, n, dat⟩, _⟩ := I.tuple h
  exact ⟨o, its.toArray, n, look, cls, dat, vals_items rv⟩
/-- set(l), l a list of such tuples, each unlike the others -/
def rSetM (K : PySem.W.Frag) (P : Program) (w : World) : List V → Hp → VK → Prop := fun vs H Q => ∃ l ks, vs = [.ref l] ∧ SqL K H l ((ks : List (Addr × List Key)).map fun e => V.ref e.1) ∧ (∀ e ∈ ks, SqT K H e.1 (e.2.map kV)) ∧ (ks.map fun e => e.2).Nodup ∧ ks.length < 64 ∧ ∀ a L, H a = none → L.Perm ks → Q (.ref a) (upd H a (BagO P w a L))
theorem cr_setM (hc : X.calm = true) (hu : X.A.units + 64 < cLine) : CallR X (.type "set") (rSetM X.K X.prog X.w) := by
  intro pins s σ H vs us Q I rv h
  obtain ⟨l, ks, rfl, hl, mem, dis, few, q⟩ := h
  rw [Vals.ref1 rv]
  obtain ⟨its, rits, pl, _⟩ := I.list hl
  obtain rfl := refs_valsW rits
  have fresh : H s.heap.objs.size = none := I.hok.fresh (Nat.le_refl _)
  exact makes_set (I.ok.hd hc) pl.isList (fun e he => inv_member I (mem e he)) dis (by omega) (by omega) fun h' tk L es ep t B pm keep =>
    ⟨.ref s.heap.objs.size, upd H s.heap.objs.size (BagO X.prog X.w s.heap.objs.size L), I.laid (t' := tk) keep (Nat.le_refl _) (bag_told B.own), rfl, q _ L fresh pm⟩
/-- sorted(that set) -/
def rSortM (K : PySem.W.Frag) (P : Program) (w : World) : List V → Hp → VK → Prop := fun vs H Q => ∃ a L sh, vs = [.ref a] ∧ H a = some (BagO P w a L) ∧ (∀ e ∈ L, SqT K H e.1 (e.2.map kV) ∧ Shape sh e.2) ∧ ∀ (p : Addr) (L' : List (Addr × List Key)), H p = none → L'.Perm L → L'.Pairwise (fun x y => leK x.2 y.2) → Q (.ref p) (upd H p (.lst (L'.map fun e => V.ref e.1)))
theorem cr_sortM (hc : X.calm = true) : CallR X (.builtin "sorted") (rSortM X.K X.prog X.w) := by
  intro pins s σ H vs us Q I rv h
  obtain ⟨a, L, sh, rfl, ha, mem, q⟩ := h
  rw [Vals.ref1 rv]
  have own : Bag0 X.prog X.w s.heap a L := (I.hok a _ ha).1
  obtain ⟨es, ep, t, B⟩ := own.whole fun e he => inv_member I (mem e he).1
  refine sorts_set B (I.ok.hd hc) (fun e he => (mem e he).2) fun s' p out c L' keep g o le look eout pm pw => ?_
  have fresh : H p = none := I.hok.fresh le
  have short : (L'.map fun e => V.ref e.1).length ≤ sizeLine := by
    have := B.less
    rw [List.length_map, pm.length_eq, sizeLine_eq]
    omega
  obtain ⟨hp', gs, dr, tk, os⟩ := s'
  obtain rfl : gs = s.gens := g
  obtain rfl : os = s.os := o
  have J : L2.Inv X pins σ (upd H p (.lst (L'.map fun e => V.ref e.1))) { heap := hp', gens := s.gens, drawn := dr, toks := tk, os := s.os } :=
    I.call (ch := []) (Un.laid keep le fresh) (I.hok.laid keep le ⟨short, out.toList, c, by rw [eout]; exact vals_refsW L', look⟩) I.bare (fun _ z => nomatch z)
  exact ⟨.ref p, _, J, rfl, q p L' fresh pm pw⟩
end
end RR
set_option maxHeartbeats 4000000
namespace RR
open PySem PySem.Spec PyProof.Rows L2
/-! ### sets of whole numbers and of texts: told by their members in the table's order -/
/-- the number or the text that a value is -/
def keyV : Value → Key
  | .str x _ => .inr x
  | .int i _ => .inl i
  | _ => .inl 0
theorem keyV_of {k : Key} {v : Value} (h : keyIs k v = true) : keyV v = k := by
  rcases k with i | x
  · obtain ⟨t, rfl⟩ := keyIs_int h
    rfl
  · obtain ⟨t, rfl⟩ := keyIs_str h
    rfl
theorem keyIs_scan {k : Key} {v : Value} (h : keyIs k v = true) : v.scannable = true := by
  rcases k with i | x
  · obtain ⟨t, rfl⟩ := keyIs_int h
    rfl
  · obtain ⟨t, rfl⟩ := keyIs_str h
    rfl
theorem keyIs_kV {k : Key} {v : Value} (h : RelV (kV k) v) : keyIs k v = true := by
  rcases k with i | x
  · obtain ⟨u, rfl⟩ := h
    exact (show Value.isInt i (.int i u) = true by simp [Value.isInt])
  · obtain ⟨u, rfl⟩ := h
    exact (show Value.isStrOf x (.str x u) = true by simp [Value.isStrOf])
section
variable (P : Program) (w : World)
/-- the rows of a table and the members ks that stand in them -/
structure Fam (es : Array (Int × Value)) (t : SetTable) (ks : List Key) : Prop where
  up : Ris t.place.toList
  led : t.led = true ∨ w.params.followText "set-order" = true
  laid : t.fits es.size = true
  are : es.toList.map (fun e => keyV e.2) = ks
  each : ∀ e ∈ es.toList, keyIs (keyV e.2) e.2 = true ∧ e.1 = (keyK P w).hash (keyV e.2)
  one : ks.Nodup
  room : ks.length < scanBound
/-- the set at a has just the members ks -/
def KeySet (h : Heap) (a : Addr) (ks : List Key) : Prop := ∃ (es : Array (Int × Value)) (ep : Nat) (t : SetTable), Fam P w es t ks ∧ ∃ o, h.get? a = some o ∧ (o.ExactSet ∧ o.data = .set es ep t)
end
section
variable {P : Program} {w : World} {A : Around} {E : Value → Shared → Prop} {s : Shared} {es : Array (Int × Value)} {t : SetTable} {ks : List Key}
theorem Fam.count (F : Fam P w es t ks) : es.size = ks.length := by rw [← F.are, List.length_map, Array.length_toList]
theorem Fam.elems (F : Fam P w es t ks) : ElemsOf (keyK P w) es.toList := fun e he => ⟨⟨keyV e.2, (F.each e he).1, (F.each e he).2⟩, keyIs_scan (F.each e he).1⟩
theorem Fam.moved (F : Fam P w es t ks) {es' : Array (Int × Value)} {t' : SetTable} (pm : es'.toList.Perm es.toList) (l : t'.fits es'.size = true) (u : Ris t'.place.toList) (d : t'.led = t.led) : ∃ ks', ks'.Perm ks ∧ Fam P w es' t' ks' := by
  have pk : (es'.toList.map fun e => keyV e.2).Perm ks := by
    rw [← F.are]
    exact pm.map _
  exact ⟨_, pk, u, by rw [d]; exact F.led, l, rfl, fun e he => F.each e (pm.mem_iff.mp he), pk.nodup_iff.mpr F.one, by rw [pk.length_eq]; exact F.room⟩
/-- a new member laid in a table -/
theorem Fam.more (F : Fam P w es t ks) {k : Key} {v : Value} (hv : keyIs k v = true) (nk : k ∉ ks) (room : ks.length + 1 < scanBound) :
    ∃ ks', ks'.Perm (k :: ks) ∧ Fam P w (layNew t es ((keyK P w).hash k) v).1 (layNew t es ((keyK P w).hash k) v).2.1 ks' := by
  have pm := layNew_perm t es ((keyK P w).hash k) v
  rw [Array.toList_push] at pm
  have pk := (pm.trans (List.perm_append_singleton _ _)).map fun e => keyV e.2
  rw [List.map_cons, F.are] at pk
  dsimp only at pk
  rw [keyV_of hv] at pk
  refine ⟨_, pk, layNew_ris t es _ v F.up, by rw [layNew_led]; exact F.led, layNew_fits t es _ v, rfl, fun e he => ?_, pk.nodup_iff.mpr (List.nodup_cons.mpr ⟨nk, F.one⟩), by rw [pk.length_eq]; exact room⟩
  rcases List.mem_append.mp (pm.mem_iff.mp he) with old | new
  · exact F.each e old
  · rw [List.mem_singleton.mp new]
    dsimp only
    rw [keyV_of hv]
    exact ⟨hv, rfl⟩
theorem Fam.bent (F : Fam P w es t ks) : Fam P w es { t with plain := false } ks := ⟨F.up, F.led, SetTable.fits_plain_off F.laid, F.are, F.each, F.one, F.room⟩
/-- the table is put down, and laid anew where it is too full -/
theorem puts_down {a : Addr} {o : Obj} {es0 : Array (Int × Value)} {ep : Nat} {t0 : SetTable} (look : s.heap.get? a = some o) (ex : o.ExactSet) (dat : o.data = .set es0 ep t0) (F : Fam P w es t ks) {g : Bool → Sem Unit} {dummy : Bool}
    (silent : ∀ b z (R : Unit → Shared → Prop), R () z → wpAny (model P w) A (g b) R E z) {R : Option Bool → Shared → Prop}
    (q : ∀ h' ks', Heap.SameBut a s.heap h' → KeySet P w h' a ks' → ks'.Perm ks → R (some true) { s with heap := h' }) :
    wpAny (model P w) A (storeSet a es t >>= fun _ => if (!dummy && t.tooFull) = true then (g (relayAll t es (SetTable.grown es.size)).2.2 >>= fun _ => storeSet a (relayAll t es (SetTable.grown es.size)).1 (relayAll t es (SetTable.grown es.size)).2.1 >>= fun _ => pure (some true)) else pure (some true)) R E s := by
  refine wpAny_bind (wpAny_storeSet_of look dat ?_ (by rw [F.count]; exact fits_of_scanBound F.room))
  have look1 := store_at (es' := es) (t' := t) look dat
  have same1 : Heap.SameBut a s.heap (s.heap.update a (Obj.putSet es t)) := Heap.SameBut.update ..
  generalize s.heap.update a (Obj.putSet es t) = h1 at look1 same1 ⊢
  by_cases full : (!dummy && t.tooFull) = true
  · rw [if_pos full]
    refine wpAny_bind (silent _ _ _ ?_)
    obtain ⟨ks', pk, F'⟩ := F.moved (relayAll_perm t es (SetTable.grown es.size)) (relayAll_fits t es (SetTable.grown es.size)) (relayAll_ris t es _) (relayAll_led t es _)
    generalize relayAll t es (SetTable.grown es.size) = laid at F' ⊢
    obtain ⟨e1, t1, b1⟩ := laid
    dsimp only at F' ⊢
    refine wpAny_bind (wpAny_storeSet_of (s := { s with heap := h1 }) look1 rfl ?_ (by rw [F'.count]; exact fits_of_scanBound F'.room))
    exact wpAny_pure (q _ ks' (same1.trans (Heap.SameBut.update ..)) ⟨_, _, _, F', _, store_at (es' := e1) (t' := t1) look1 rfl, ⟨ex.1, ex.2.1, ex.2.2⟩, rfl⟩ pk)
  · rw [if_neg full]
    exact wpAny_pure (q h1 ks same1 ⟨_, _, _, F, _, look1, ⟨ex.1, ex.2.1, ex.2.2⟩, rfl⟩ (List.Perm.refl _))
/-- a number or a text is put in -/
theorem joins {a : Addr} (B : KeySet P w s.heap a ks) {k : Key} {v : Value} (hv : keyIs k v = true) (room : ks.length + 1 < scanBound) {Q : Bool → Shared → Prop} (old : k ∈ ks → Q false s)
    (new : k ∉ ks → ∀ h' ks', Heap.SameBut a s.heap h' → KeySet P w h' a ks' → ks'.Perm (k :: ks) → Q true { s with heap := h' }) : wpAny (model P w) A (setAddHashed a v ((keyK P w).hash k)) Q E s := by
  obtain ⟨es, ep, t, F, o, look, ex, dat⟩ := B
  have sc := keyIs_scan hv
  unfold setAddHashed
  refine wpAny_holding ?_
  show wpAny _ _ (setAddHashedIn a v ((keyK P w).hash k) (99999 + 1)) _ _ _
  rw [setAddHashedIn]
  refine wpAny_bind (wpAny_setState_of look dat F.laid ?_)
  dsimp only
  rw [if_pos (byScan_of sc (by rw [F.count]; exact F.room) F.elems)]
  unfold setAddByScan
  refine wpAny_bind (wpAny_bind (wpAny_rule (wpAny_bind (wpAny_setScan_of (knd := keyK P w) hv look dat F.laid F.elems ?_))))
  have there : ∀ e ∈ es.toList, ((keyK P w).is k e.2 = true ↔ keyV e.2 = k) := fun e he => ⟨fun z => keyV_of z, fun z => z ▸ (F.each e he).1⟩
  cases found : es.toList.findIdx? (fun e => (keyK P w).is k e.2) with
  | some j =>
    obtain ⟨lt, is, _⟩ := List.findIdx?_eq_some_iff_getElem.mp found
    have kin : k ∈ ks := by
      rw [← F.are]
      exact List.mem_map.mpr ⟨_, List.getElem_mem lt, (there _ (List.getElem_mem lt)).mp is⟩
    exact wpAny_pure (wpAny_pure (old kin))
  | none =>
    have kout : k ∉ ks := fun m => by
      rw [← F.are] at m
      obtain ⟨e, he, ee⟩ := List.mem_map.mp m
      have no := List.findIdx?_eq_none_iff.mp found e he
      rw [(there e he).mpr ee] at no
      cases no
    obtain ⟨k1, pk, F1⟩ := F.more hv kout room
    dsimp only
    generalize layNew t es ((keyK P w).hash k) v = put at F1 ⊢
    obtain ⟨e1, t1, dummy, gave⟩ := put
    dsimp only at F1 ⊢
    have quiet : ∀ (b : Bool) (z : Shared) (R : Unit → Shared → Prop), R () z → wpAny (model P w) A (match b with | true => rule "set.scan.the-table-gave-way" | false => pure ()) R E z := fun b z R r => by
      cases b
      · exact wpAny_pure r
      · exact wpAny_rule r
    have fin : ∀ h' ks', Heap.SameBut a s.heap h' → KeySet P w h' a ks' → ks'.Perm k1 → Q true { s with heap := h' } := fun h' ks' sb S p => new kout h' ks' sb S (p.trans pk)
    refine wpAny_bind (quiet _ _ _ ?_)
    split
    · refine wpAny_bind ?_
      rw [hashByValue_scannable 8 sc]
      refine wpAny_pure ?_
      have F2 : Fam P w e1 (if plainKind v = true then t1 else { t1 with plain := false }) k1 := by
        split
        · exact F1
        · exact F1.bent
      exact puts_down look ex dat F2 quiet fun h' ks' sb S p => wpAny_pure (fin h' ks' sb S p)
    · refine wpAny_bind (wpAny_pure ?_)
      simp only [if_true]
      exact puts_down look ex dat F1 quiet fun h' ks' sb S p => wpAny_pure (fin h' ks' sb S p)
end
end RR
set_option maxHeartbeats 4000000
namespace RR
open PySem PySem.Spec PyProof.Rows L2
/-! own classes asked as containers: len(o), x in o, o[x], o[x] = v; a property told; sorted by key=str -/
section
variable {X : Cx} {CX : CXT} {n : Nat} {C f p : Addr} {g : Sp} {E : XK} {ta tb tv : TE} {a b e o value : Expr} {pos pos' : Pos} {nm : Str}
def rLenO (C : Addr) (g : Sp) (E : XK) : List V → Hp → VK → Prop := fun xs H Q => ∃ a dx fs, xs = [.ref a] ∧ H a = some (.ins C dx fs) ∧ g [.ref a] H (fun v H' => ∃ i : Int, v = .int i ∧ 0 ≤ i ∧ i < 2 ^ 63 ∧ Q (.int i) H') E
def rInO (C : Addr) (g : Sp) (E : XK) (b : Bool → Bool) : R2 := fun x y H Q => ∃ a dx fs, y = .ref a ∧ H a = some (.ins C dx fs) ∧ g [.ref a, x] H (fun v H' => ∃ k, v = .bl k ∧ Q (.bl (b k)) H') E
def rIxO (C : Addr) (g : Sp) (E : XK) : R2 := fun x y H Q => ∃ a dx fs, x = .ref a ∧ H a = some (.ins C dx fs) ∧ g [.ref a, y] H Q E
def rSetO (C : Addr) (g : Sp) (E : XK) : TSet := fun o i v H Q => ∃ a dx fs, o = .ref a ∧ H a = some (.ins C dx fs) ∧ g [.ref a, i, v] H (fun _ H' => Q H') E
/-- the class has the name as a property at p whose setter is the def at g -/
structure PropSet (K : PySem.W.Frag) (C : Addr) (f : Str) (p g : Addr) : Prop where
  tk : PySem.W.takerIn K C f = some (some (.ref p))
  ty : PySem.W.typeIn K (.ref p) = some (.type "property")
  rec_ : ∃ a rest, PySem.W.recIn K p "property" = some (a :: .ref g :: rest)
def sFldP (C : Addr) (g : Sp) (E : XK) (ta tv : TE) : TS := fun D σ H => tv σ H fun v H1 => ta σ H1 fun x H2 => ∃ a dx fs, x = .ref a ∧ H2 a = some (.ins C dx fs) ∧ g [.ref a, v] H2 (fun _ H' => D.nx σ H') E
end

/-! ### the order of texts -/
def leS (a b : Str) : Bool := decide (a.cps.toList ≤ b.cps.toList)
def srtS (xs : List Str) : List Str := xs.mergeSort leS
theorem leS_trans (a b c : Str) (h1 : leS a b = true) (h2 : leS b c = true) : leS a c = true := by
  unfold leS at *
  rw [decide_eq_true_eq] at *
  exact Std.le_trans h1 h2
theorem leS_total (a b : Str) : (leS a b || leS b a) = true := by
  unfold leS
  rw [Bool.or_eq_true, decide_eq_true_eq, decide_eq_true_eq]
  exact Std.le_total
theorem leS_anti (a b : Str) (h1 : leS a b = true) (h2 : leS b a = true) : a = b := by
  unfold leS at *
  rw [decide_eq_true_eq] at *
  have h := Std.le_antisymm h1 h2
  cases a; cases b
  congr
  exact Array.toList_inj.mp h
theorem srtS_perm (xs : List Str) : (srtS xs).Perm xs := List.mergeSort_perm xs leS
theorem srtS_pw (xs : List Str) : (srtS xs).Pairwise fun a b => leS a b = true := List.pairwise_mergeSort (fun a b c => leS_trans a b c) leS_total xs
theorem pw_perm_eq : ∀ {xs ys : List Str}, xs.Perm ys → (xs.Pairwise fun a b => leS a b = true) → (ys.Pairwise fun a b => leS a b = true) → xs = ys
  | [], ys, h, _, _ => (List.Perm.nil_eq h)
  | x :: xs, [], h, _, _ => absurd h.length_eq (by simp)
  | x :: xs, y :: ys, h, h1, h2 => by
    have hx : x ∈ y :: ys := h.mem_iff.mp List.mem_cons_self
    have hy : y ∈ x :: xs := h.mem_iff.mpr List.mem_cons_self
    have e : x = y := by
      rcases List.mem_cons.mp hx with e | hx
      · exact e
      rcases List.mem_cons.mp hy with e | hy
      · exact e.symm
      exact leS_anti _ _ ((List.pairwise_cons.mp h1).1 _ hy) ((List.pairwise_cons.mp h2).1 _ hx)
    subst e
    rw [pw_perm_eq (List.Perm.cons_inv h) (List.pairwise_cons.mp h1).2 (List.pairwise_cons.mp h2).2]
theorem srtS_congr {xs ys : List Str} (h : xs.Perm ys) : srtS xs = srtS ys := pw_perm_eq (((srtS_perm xs).trans h).trans (srtS_perm ys).symm) (srtS_pw xs) (srtS_pw ys)
theorem srtS_len (xs : List Str) : (srtS xs).length = xs.length := (srtS_perm xs).length_eq
theorem srtS_mem {xs : List Str} {a : Str} : a ∈ srtS xs ↔ a ∈ xs := (srtS_perm xs).mem_iff
theorem alike_strs (xs : List Str) : PySem.W.AllAlike (xs.map fun b => PyData.str b) := PySem.W.AllAlike.of fun b b' => rfl
theorem sortable_strs (xs : List Str) : PySem.W.Sortable (xs.map fun b => PyData.str b) := PySem.W.Sortable.others fun b => ⟨(fun z => nomatch z), fun xs z => nomatch z⟩
theorem srt_data (xs : List Str) : xs.mergeSort (PySem.W.dataLe false fun b => PyData.str b) = srtS xs := by
  rw [PySem.W.dataLe_str (fun b : Str => b)]; rfl
section
variable {X : Cx}
def rSortFS (K : PySem.W.Frag) : List V → Hp → VK → Prop := fun vs H Q => ∃ (a : Addr) (xs : List Str), vs = [V.ref a] ∧ SqL K H a (xs.map V.str) ∧ ∀ p, H p = none → Q (.ref p) (upd H p (.lst ((srtS xs).map V.str)))
def rSortKS (K : PySem.W.Frag) : List V → List V → Hp → VK → Prop := fun vs zs H Q => zs = [.ty "str"] ∧ rSortFS K vs H Q
end
/-! ### two tuples of the same items -/
section
variable {X : Cx}
def rEqTS (K : PySem.W.Frag) : R2 := fun x y H Q => ∃ a b xs, x = .ref a ∧ y = .ref b ∧ SqT K H a xs ∧ SqT K H b xs ∧ (∀ z ∈ xs, flatB z = true ∨ ∃ c, z = .ref c) ∧ Q (.bl true) H
end
end RR
set_option maxHeartbeats 4000000
namespace RR
open PySem PySem.Spec PyProof.Rows L2
/-! ### set(l), l a list of numbers or of texts; that set sorted -/
/-- each item once -/
def dd {α : Type} [DecidableEq α] : List α → List α
  | [] => []
  | x :: r => if x ∈ r then dd r else x :: dd r
theorem dd_mem {α : Type} [DecidableEq α] {y : α} : ∀ {l : List α}, y ∈ dd l ↔ y ∈ l
  | [] => Iff.rfl
  | x :: r => by
    unfold dd
    split
    · rw [dd_mem, List.mem_cons]
      exact ⟨.inr, fun z => z.elim (fun e => e ▸ ‹x ∈ r›) id⟩
    · rw [List.mem_cons, List.mem_cons, dd_mem]
theorem dd_one {α : Type} [DecidableEq α] : ∀ (l : List α), (dd l).Nodup
  | [] => .nil
  | x :: r => by
    unfold dd
    split
    · exact dd_one r
    · exact List.nodup_cons.mpr ⟨fun z => ‹x ∉ r› (dd_mem.mp z), dd_one r⟩
theorem dd_le {α : Type} [DecidableEq α] : ∀ (l : List α), (dd l).length ≤ l.length
  | [] => Nat.le_refl _
  | x :: r => by
    unfold dd
    split
    · exact Nat.le_succ_of_le (dd_le r)
    · exact Nat.succ_le_succ (dd_le r)
theorem same_once {α : Type} [DecidableEq α] {k l : List α} (nk : k.Nodup) (nl : l.Nodup) (m : ∀ x, x ∈ k ↔ x ∈ l) : k.Perm l := (List.perm_ext_iff_of_nodup nk nl).mpr m
theorem dd_map {α β : Type} [DecidableEq α] [DecidableEq β] {f : α → β} (inj : ∀ a b, f a = f b → a = b) : ∀ (l : List α), dd (l.map f) = (dd l).map f
  | [] => rfl
  | x :: r => by
    have e : f x ∈ r.map f ↔ x ∈ r := ⟨fun z => by
      obtain ⟨y, hy, ey⟩ := List.mem_map.mp z
      rwa [← inj _ _ ey], fun z => List.mem_map_of_mem z⟩
    rw [List.map_cons]
    unfold dd
    by_cases h : x ∈ r
    · rw [if_pos h, if_pos (e.mpr h), dd_map inj]
    · rw [if_neg h, if_neg fun z => h (e.mp z), dd_map inj, List.map_cons]
/-- the unlike whole numbers, ascending -/
def srtI (l : List Int) : List Int := (dd l).mergeSort fun a b => decide (a ≤ b)
/-- the unlike texts, ascending -/
def onceS (l : List Str) : List Str := srtS (dd l)
theorem rise_eq : ∀ {xs ys : List Int}, xs.Perm ys → (xs.Pairwise fun a b => decide (a ≤ b) = true) → (ys.Pairwise fun a b => decide (a ≤ b) = true) → xs = ys
  | [], ys, h, _, _ => (List.Perm.nil_eq h)
  | x :: xs, [], h, _, _ => absurd h.length_eq (by simp)
  | x :: xs, y :: ys, h, h1, h2 => by
    have hx : x ∈ y :: ys := h.mem_iff.mp List.mem_cons_self
    have hy : y ∈ x :: xs := h.mem_iff.mpr List.mem_cons_self
    have e : x = y := by
      rcases List.mem_cons.mp hx with e | hx
      · exact e
      rcases List.mem_cons.mp hy with e | hy
      · exact e.symm
      have u := of_decide_eq_true ((List.pairwise_cons.mp h1).1 _ hy)
      have v := of_decide_eq_true ((List.pairwise_cons.mp h2).1 _ hx)
      omega
    subst e
    rw [rise_eq (List.Perm.cons_inv h) (List.pairwise_cons.mp h1).2 (List.pairwise_cons.mp h2).2]
def leI (a b : Int) : Bool := decide (a ≤ b)
theorem rise_sort (l : List Int) : (l.mergeSort fun a b => decide (a ≤ b)).Pairwise fun a b => decide (a ≤ b) = true :=
  List.pairwise_mergeSort (le := leI) (fun a b c h1 h2 => decide_eq_true (Int.le_trans (of_decide_eq_true h1) (of_decide_eq_true h2))) (fun a b => by
    unfold leI
    rw [Bool.or_eq_true, decide_eq_true_eq, decide_eq_true_eq]
    omega) l
theorem rise_perm {xs ys : List Int} (h : xs.Perm ys) : (xs.mergeSort fun a b => decide (a ≤ b)) = ys.mergeSort fun a b => decide (a ≤ b) :=
  rise_eq (((List.mergeSort_perm xs _).trans h).trans (List.mergeSort_perm ys _).symm) (rise_sort xs) (rise_sort ys)
section
variable {P : Program} {w : World} {A : Around} {E : Value → Shared → Prop}
theorem KeySet.kept {h h' : Heap} {a : Addr} {ks : List Key} (B : KeySet P w h a ks) (same : ∀ o, h.get? a = some o → h'.get? a = some o) : KeySet P w h' a ks := by
  obtain ⟨es, ep, t, F, o, look, more⟩ := B
  exact ⟨es, ep, t, F, o, same o look, more⟩
theorem no_keys {h : Heap} {a : Addr} (look : h.get? a = some (noneYet w)) : KeySet P w h a [] :=
  ⟨#[], 0, _, ⟨by unfold Ris; exact .nil, by
    show (!w.params.followText "set-order") = true ∨ _
    cases w.params.followText "set-order"
    · exact .inl rfl
    · exact .inr rfl, by rfl, rfl, (fun e he => nomatch he), .nil, by show 0 < scanBound; decide⟩, _, look, ⟨rfl, rfl, rfl⟩, rfl⟩
/-- numbers or texts, each of them put in, some of them twice -/
theorem puts_keys {I S : Addr} {fp wr : List Addr} {G : Array GenState → Array GenState → Prop} {n : Nat} {Pv : Nat → Value → Prop} {St : Nat → Shared → Prop} {R : Result → Shared → Prop} (W : WalksS P w A.in1 I fp wr G n Pv St) (aside : S ∉ fp)
    {js : List Key} (len : js.length = n) (few : n + 1 < scanBound) (is : ∀ i v, Pv i v → ∃ k, js[i]? = some k ∧ keyIs k v = true) {h0 : Heap} (newS : h0.get? S = none) (newW : ∀ b ∈ wr, h0.get? b = none) :
    ∀ (m i : Nat) (s : Shared), i + m = n → St i s → (∀ b o, h0.get? b = some o → s.heap.get? b = some o) → (∃ ks, KeySet P w s.heap S ks ∧ ks.length ≤ i ∧ ∀ k, k ∈ ks ↔ k ∈ js.take i) →
      (∀ s' ks, KeySet P w s'.heap S ks → (∀ k, k ∈ ks ↔ k ∈ js) → (∀ b o, h0.get? b = some o → s'.heap.get? b = some o) → Moved (S :: wr) G s s' → R (.ok (.ret .none)) s') →
      codeAny (model P w) A (.builtin "set.update.loop" ⟨[.ref S, .ref I], []⟩) R s := by
  have outW : S ∉ wr := fun z => aside (W.sub S z)
  have more : ∀ b ∈ wr, b ∈ S :: wr := fun b z => .tail _ z
  have stays : ∀ {z z' : Shared}, Moved wr G z z' → (∀ b o, h0.get? b = some o → z.heap.get? b = some o) → ∀ b o, h0.get? b = some o → z'.heap.get? b = some o := fun mv keep b o e =>
    mv.heap b o (fun z => by have := newW b z; rw [e] at this; cases this) (keep b o e)
  intro m
  induction m with
  | zero =>
    intro i s im st keep bag fin
    obtain ⟨ks, B, _, mem⟩ := bag
    obtain rfl : i = n := im
    refine codeAny_builtin PyProof.Rows.F.entry_set_update_loop ?_
    rw [Around.under_plainId PyProof.Rows.F.plain_set_update_loop]
    unfold Builtin.«set.update.loop»
    dsimp only
    refine wpAny_bind (W.done s _ _ st fun s' mv => ?_)
    rw [List.take_of_length_le (Nat.le_of_eq len)] at mem
    exact wpAny_pure (fin s' ks (B.kept fun o e => mv.heap S o outW e) mem (stays mv keep) (mv.mono more))
  | succ m ih =>
    intro i s im st keep bag fin
    obtain ⟨ks, B, cnt, mem⟩ := bag
    refine codeAny_builtin PyProof.Rows.F.entry_set_update_loop ?_
    rw [Around.under_plainId PyProof.Rows.F.plain_set_update_loop]
    unfold Builtin.«set.update.loop»
    dsimp only
    refine wpAny_bind (W.item i s _ _ (by omega) st fun v s' pv st' mv => ?_)
    obtain ⟨k, at_i, kv⟩ := is i v pv
    have keep' := stays mv keep
    have nxt : ∀ y, y ∈ js.take (i + 1) ↔ y ∈ js.take i ∨ y = k := fun y => by
      rw [List.take_add_one, at_i, List.mem_append]
      exact or_congr Iff.rfl (by rw [Option.toList_some, List.mem_singleton])
    have B' : KeySet P w s'.heap S ks := B.kept fun o e => mv.heap S o outW e
    unfold setAdd
    refine wpAny_bind (wpAny_holding (wpAny_holding (wpAny_bind ((keyK P w).pyHash kv ?_))))
    refine joins (s := { s' with toks := s'.toks + 1 }) B' kv (by omega) (fun old => ?_) fun new h' ks' sb S' pm => ?_
    · refine wpAny_pure ⟨plainId_quiet PyProof.Rows.F.plain_set_update_loop _, ih (i + 1) _ (by omega) (W.frame (i + 1) s' s'.heap _ st' (Nat.le_add_right _ _) fun b hb o e => e) keep' ⟨ks, B', by omega, fun y => ?_⟩ fun s2 k2 B3 m3 keep3 mv2 => ?_⟩
      · rw [nxt, mem]
        exact ⟨.inl, fun z => z.elim id fun e => e ▸ (mem k).mp old⟩
      · exact fin s2 k2 B3 m3 keep3 (Moved.trans W.gtrans (Moved.then_heap (mv.mono more) (Nat.le_add_right _ _) fun b o nb e => e) mv2)
    · have keep2 : ∀ b o, h0.get? b = some o → h'.get? b = some o := fun b o e => (sb.2 b fun z => by rw [z, newS] at e; cases e).trans (keep' b o e)
      refine wpAny_pure ⟨plainId_quiet PyProof.Rows.F.plain_set_update_loop _, ih (i + 1) _ (by omega) (W.frame (i + 1) s' h' _ st' (Nat.le_add_right _ _) fun b hb o e => ?_) keep2 ⟨ks', S', by rw [pm.length_eq, List.length_cons]; omega, fun y => ?_⟩ fun s2 k2 B3 m3 keep3 mv2 => ?_⟩
      · rw [sb.2 b fun z => aside (z ▸ hb)]
        exact e
      · rw [nxt, pm.mem_iff, List.mem_cons, mem]
        exact Or.comm
      · refine fin s2 k2 B3 m3 keep3 (Moved.trans W.gtrans (Moved.then_heap (mv.mono more) (Nat.le_add_right _ _) fun b o nb e => ?_) mv2)
        rw [sb.2 b fun z => nb (z ▸ .head _)]
        exact e
variable {s : Shared}
theorem makes_keys {l : Addr} {us : List Value} {js : List Key} {Q : Value → Shared → Prop} (calm : A.handled = none) (isl : s.heap.IsList l us.toArray) (are : ∀ (i : Nat) (v : Value), us[i]? = some v → ∃ k, js[i]? = some k ∧ keyIs k v = true) (len : js.length = us.length) (few : us.length + 1 < scanBound)
    (q : ∀ h' tk ks, KeySet P w h' s.heap.objs.size ks → (∀ k, k ∈ ks ↔ k ∈ js) → (∀ b o, s.heap.get? b = some o → h'.get? b = some o) → Q (.ref s.heap.objs.size) { s with heap := h', toks := tk }) : wpAny (model P w) A (call (.type "set") [.ref l]) Q E s := by
  obtain ⟨_, _, line⟩ := F.called_set.mro
  have f1 := F.called_set.made
  have f2 := F.called_set.sub
  have f3 := F.called_set.notType
  have f4 := F.called_set.canCreate
  have f5 := F.typeCall_set_1 (.ref l)
  refine wpAny_call (codeAny_of_tree ?_)
  show wpAny _ _ (callAny (.type "set") _) _ _ _
  refine wpAny_pure ⟨Code.quiet_builtin _ (by decide +kernel), codeAny_builtin F.entry_type_call ?_⟩
  rw [Around.under_plain (weight_type_call_type "set" [.ref l] []) rfl]
  repeat any_goals first | assumption | wp_step
  refine codeAny_mono (code_set_led1 (.ref l) (E := E) (Q₁ := fun ob z => ob = .ref s.heap.objs.size ∧ z = { s with heap := s.heap.push (noneYet w) }) ⟨rfl, rfl⟩) fun r z hz => ?_
  match r, hz with
  | .ok (.ret ob), hz =>
    obtain ⟨rfl, rfl⟩ := hz
    have lookS : (s.heap.push (noneYet w)).get? s.heap.objs.size = some (noneYet w) := Heap.get?_push_size _ rfl
    have isSet : Shared.TypeIs { s with heap := s.heap.push (noneYet w) } (.ref s.heap.objs.size) "set" := ⟨_, lookS, rfl⟩
    have g1 := F.called_set.init.lookup
    have g2 := F.called_set.init.bind (.ref s.heap.objs.size)
    dsimp only
    repeat any_goals first | assumption | wp_step
    refine codeAny_mono (codeAny_call_builtin (R := wants (fun v z => v = .none ∧ ∃ h' tk ks, z = { s with heap := h', toks := tk } ∧ KeySet P w h' s.heap.objs.size ks ∧ (∀ k, k ∈ ks ↔ k ∈ js) ∧ ∀ b o, s.heap.get? b = some o → h'.get? b = some o) E) F.called_set.init.plain F.entry_set_init (check_set_init_1 isSet ?_)) fun r2 z2 hz2 => ?_
    · obtain ⟨ol, lookL, clsL, nL, datL⟩ := isl
      obtain ⟨c1, d1, dt1, sl1⟩ := ol
      obtain rfl : c1 = .type "list" := clsL
      obtain rfl : dt1 = .seq us.toArray nL := datL
      have lookL2 : (s.heap.push (noneYet w)).get? l = some { cls := .type "list", dict := d1, data := .seq us.toArray nL, slots := sl1 } := Heap.get?_push_of_some _ lookL
      have u1 := F.sub_list_set
      have u2 := F.sub_list_frozenset
      have u3 : (Value.type "list" == Value.type "dict") = false := rfl
      have isL2 : (s.heap.push (noneYet w)).IsList l us.toArray := ⟨_, lookL2, rfl, nL, rfl⟩
      unfold Builtin.«set.__init__» noKeywords Builtin.Frozenset.updateFrom
      generalize hit : pyIter = it
      wp_walk
      subst hit
      refine wpAny_pyIter_list isL2 ?_
      refine wpAny_bind (wpAny_runValue ?_)
      have below : l < s.heap.objs.size := Heap.lt_size lookL
      have sz : (s.heap.push (noneYet w)).objs.size = s.heap.objs.size + 1 := Heap.size_push ..
      have calm3 : A.in1.in1.in1.handled = none := by simp [calm]
      have none_at : ∀ b, s.heap.objs.size ≤ b → s.heap.get? b = none := fun b hb => by
        cases e : s.heap.get? b with
        | none => rfl
        | some o => exact (Nat.lt_irrefl b (Nat.lt_of_lt_of_le (Heap.lt_size e) hb)).elim
      refine puts_keys (js := js) (h0 := s.heap) ((Walks.list calm3 _ l (by rw [sz]; exact Nat.ne_of_lt (Nat.lt_succ_of_lt below)) us.toArray).toS) (by rw [sz]; simp only [List.mem_cons, List.not_mem_nil, or_false]; exact fun z => z.elim (Nat.ne_of_lt (Nat.lt_succ_self _)) (Nat.ne_of_gt below)) (by simpa using len) (by simpa using few) (fun i v hv => are i v (by rwa [List.getElem?_toArray] at hv)) (none_at _ (Nat.le_refl _)) (fun b hb => none_at b (by rw [List.mem_singleton.mp hb, sz]; exact Nat.le_succ _)) js.length 0 _ (by simp [len]) ⟨⟨_, Heap.get?_push_size _ rfl, rfl, rfl⟩, isL2.push _⟩ (fun b o e => Heap.get?_push_of_some _ (Heap.get?_push_of_some _ e)) ⟨[], no_keys (Heap.get?_push_of_some _ lookS), Nat.le_refl _, fun k => by rw [List.take_zero]⟩ fun s' ks B mem keep mv => ?_
      obtain ⟨h', g', d', tk', os'⟩ := s'
      obtain rfl : g' = s.gens := mv.gens
      obtain rfl : d' = s.drawn := mv.drawn
      obtain rfl : os' = s.os := mv.os
      refine wpAny_pure ?_
      exact wpAny_pure ⟨rfl, h', tk', ks, rfl, B, mem, keep⟩
    · match r2, hz2 with
      | .ok (.ret v), hz2 =>
        obtain ⟨rfl, h', tk, ks, rfl, B, mem, keep⟩ := hz2
        dsimp only
        repeat any_goals first | assumption | wp_step
        exact q h' tk ks B mem keep
      | .error e, hz2 => exact hz2
      | .ok .next, hz2 => exact hz2.elim
      | .ok .brk, hz2 => exact hz2.elim
      | .ok .cont, hz2 => exact hz2.elim
  | .error e, hz => exact hz
  | .ok .next, hz => exact hz.elim
  | .ok .brk, hz => exact hz.elim
  | .ok .cont, hz => exact hz.elim
end
/-- the set's own object told -/
def KeysO (P : Program) (w : World) (a : Addr) (ks : List Key) : HO := .ext fun h => KeySet P w h a ks
theorem keys_told {P : Program} {w : World} {H : Hp} {h : Heap} {a : Addr} {ks : List Key} (B : KeySet P w h a ks) : ObjOk P w H h a (KeysO P w a ks) := by
  obtain ⟨_, _, _, _, o, look, _⟩ := id B
  refine ⟨B, ⟨o, look⟩, fun g1 g2 (B1 : KeySet P w g1 a ks) same => ?_⟩
  exact B1.kept fun u e => same u e
section
variable {X : Cx}
theorem vals_keys : ∀ {js : List Key} {us : List Value}, Vals (js.map kV) us → us.length = js.length ∧ ∀ (i : Nat) (v : Value), us[i]? = some v → ∃ k, js[i]? = some k ∧ keyIs k v = true
  | [], _, .nil => ⟨rfl, fun i v h => nomatch h⟩
  | k :: js, _, .cons r t => by
    obtain ⟨n, ih⟩ := vals_keys t
    refine ⟨congrArg (· + 1) n, fun i v h => ?_⟩
    cases i with
    | zero => cases h; exact ⟨k, rfl, keyIs_kV r⟩
    | succ i => exact ih i v h
/-- set(l), l a list of whole numbers and texts -/
def rSetK (K : PySem.W.Frag) (P : Program) (w : World) : List V → Hp → VK → Prop := fun vs H Q => ∃ l js, vs = [.ref l] ∧ SqL K H l ((js : List Key).map kV) ∧ js.length < 1000 ∧ ∀ a ks, H a = none → (∀ k, k ∈ ks ↔ k ∈ js) → Q (.ref a) (upd H a (KeysO P w a ks))
theorem cr_setK (hc : X.calm = true) : CallR X (.type "set") (rSetK X.K X.prog X.w) := by
  intro pins s σ H vs us Q I rv h
  obtain ⟨l, js, rfl, hl, few, q⟩ := h
  rw [Vals.ref1 rv]
  obtain ⟨its, rits, pl, _⟩ := I.list hl
  obtain ⟨len, are⟩ := vals_keys rits
  have fresh : H s.heap.objs.size = none := I.hok.fresh (Nat.le_refl _)
  exact makes_keys (I.ok.hd hc) pl.isList are len.symm (by unfold scanBound; omega) fun h' tk ks B mem keep =>
    ⟨.ref s.heap.objs.size, upd H s.heap.objs.size (KeysO X.prog X.w s.heap.objs.size ks), I.laid (t' := tk) keep (Nat.le_refl _) (keys_told B), rfl, q _ ks fresh mem⟩
end
end RR
set_option maxHeartbeats 4000000
namespace RR
open PySem PySem.Spec PyProof.Rows L2
/-! ### such a set sorted -/
section
variable {P : Program} {w : World} {A : Around} {E : Value → Shared → Prop} {s : Shared}
theorem each_by {α β : Type} {R : α → β → Prop} {f : α → β} : ∀ {vs : List α}, (∀ v ∈ vs, R v (f v)) → PySem.W.EachIs R vs (vs.map f)
  | [], _ => .nil
  | v :: vs, h => .cons (h v (.head _)) (each_by fun u hu => h u (.tail _ hu))
/-- items that are all numbers, or all texts: how they are written, compared and sorted -/
theorem sorts_keys {β : Type} {a : Addr} {ks : List Key} {bs : List β} {key : β → Key} {unk : Key → β} (back : ∀ b, unk (key b) = b) {enc : β → PyData} {Q : Value → Shared → Prop} (B : KeySet P w s.heap a ks) (calm : A.handled = none) (hu : ∀ b, A.units + 2 + (enc b).depth < cLine)
    (pm : ks.Perm (bs.map key)) (reads : ∀ h b v, keyIs (key b) v = true → PySem.Reads h v (enc b) []) (alike : ∀ l : List β, PySem.W.AllAlike (l.map enc)) (can : ∀ l : List β, PySem.W.Sortable (l.map enc))
    (q : ∀ s' p (out : Array Value) (c : Nat) (cs : List β), (∀ b o, s.heap.get? b = some o → s'.heap.get? b = some o) → s'.gens = s.gens → s'.os = s.os → s.heap.objs.size ≤ p → s'.heap.get? p = some (seqObj "list" out c) →
      cs.Perm bs → PySem.W.EachIs (fun v b => keyIs (key b) v = true) out.toList (cs.mergeSort (PySem.W.dataLe false enc)) → Q (.ref p) s') : wpAny (model P w) A (call (.builtin "sorted") [.ref a]) Q E s := by
  obtain ⟨es, ep, t, F, o, look, ex, dat⟩ := B
  have room := F.room
  refine Calls.call_function_entry kind_sorted plain_sorted entry_sorted (args_sorted1 _) ?_
  unfold Builtin.«sorted»
  refine wpAny_bind (m := checkCount "sorted" 1 1 _) (wpAny_pure ?_)
  refine wpAny_bind (collect_set (A := A.in1) calm ⟨o, look, ex.1, dat⟩ F.laid (by rw [F.count]; exact room) F.up F.led.symm fun s1 vs keep1 sz1 g1 o1 pm1 => ?_)
  have n1 : vs.length = ks.length := by rw [pm1.length_eq, List.length_map, Array.length_toList, F.count]
  have all : ∀ v ∈ vs, keyIs (keyV v) v = true ∧ keyV v ∈ ks := fun v hv => by
    obtain ⟨e, he, rfl⟩ := List.mem_map.mp (pm1.mem_iff.mp hv)
    refine ⟨(F.each e he).1, ?_⟩
    rw [← F.are]
    exact List.mem_map_of_mem (f := fun e : Int × Value => keyV e.2) he
  have here : ∀ v ∈ vs, keyIs (key (unk (keyV v))) v = true := fun v hv => by
    obtain ⟨h1, h2⟩ := all v hv
    obtain ⟨b, _, e⟩ := List.mem_map.mp (pm.mem_iff.mp h2)
    rw [← e, back, e]
    exact h1
  have pc : (vs.map fun v => unk (keyV v)).Perm bs := by
    have z := pm1.map fun v => unk (keyV v)
    rw [List.map_map] at z
    have z2 : (es.toList.map ((fun v => unk (keyV v)) ∘ fun e => e.2)) = ks.map unk := by rw [← F.are, List.map_map]; rfl
    rw [z2] at z
    have z3 := pm.map unk
    rw [List.map_map] at z3
    have z4 : bs.map (unk ∘ key) = bs := by
      rw [show (unk ∘ key) = id from funext back, List.map_id]
    rw [z4] at z3
    exact z.trans z3
  refine wpAny_bind (wpAny_newList ?_ (by rw [n1]; exact fits_of_scanBound room))
  have lookN : (s1.heap.push (seqObj "list" vs.toArray 0)).get? s1.heap.objs.size = some (seqObj "list" vs.toArray 0) := Heap.get?_push_size _ rfl
  have each0 : PySem.W.EachIs (fun v b => keyIs (key b) v = true) vs (vs.map fun v => unk (keyV v)) := each_by here
  refine wpAny_bind (wpAny_holding (PySem.W.list_sort_data (s := { s1 with heap := s1.heap.push (seqObj "list" vs.toArray 0) }) (bs := vs.map fun v => unk (keyV v)) (R := fun v b => keyIs (key b) v = true) (enc := enc) lookN each0 (each0.mono fun v b h => ⟨[], reads _ b v h, fun z => nomatch z⟩) (alike _) (can _) (by rw [List.length_map, n1]; exact fits_of_scanBound room) (fun b _ => by have := hu b; show A.units + 1 + 1 + _ < _; omega) fun out len each => ?_))
  obtain ⟨c, lookP⟩ := PyProof.Rows.sortedHeap_at (out := out.toArray) lookN
  refine wpAny_pure ⟨_, rfl, q _ s1.heap.objs.size out.toArray c _ (fun b u z => ?_) g1 o1 sz1 lookP pc each⟩
  have lt := Heap.lt_size (keep1 b u z)
  show (PyProof.Rows.sortedHeap _ _ _ _).get? b = some u
  rw [PyProof.Rows.sortedHeap_old (Nat.ne_of_lt lt) (by rw [size_push']; exact Nat.lt_succ_of_lt lt)]
  exact Heap.get?_push_of_some _ (keep1 b u z)
end
section
variable {X : Cx}
theorem fresh_list {pins : List (Addr × Obj)} {σ : L2.St} {H : Hp} {s s' : Shared} (I : L2.Inv X pins σ H s) {p : Addr} {out : Array Value} {c : Nat} {xs : List V} (keep : ∀ b o, s.heap.get? b = some o → s'.heap.get? b = some o) (g : s'.gens = s.gens) (o : s'.os = s.os) (le : s.heap.objs.size ≤ p) (look : s'.heap.get? p = some (seqObj "list" out c))
    (are : Vals xs out.toList) (short : xs.length ≤ sizeLine) : H p = none ∧ L2.Inv X pins σ (upd H p (.lst xs)) s' := by
  have fresh : H p = none := I.hok.fresh le
  obtain ⟨hp', gs, dr, tk, os⟩ := s'
  obtain rfl : gs = s.gens := g
  obtain rfl : os = s.os := o
  exact ⟨fresh, I.call (ch := []) (Un.laid keep le fresh) (I.hok.laid keep le ⟨short, out.toList, c, are, look⟩) I.bare (fun _ z => nomatch z)⟩
theorem few_keys {α : Type} [DecidableEq α] {f : α → Key} (inj : ∀ a b, f a = f b → a = b) {ks : List Key} {js : List α} (one : ks.Nodup) (m : ∀ k, k ∈ ks ↔ k ∈ js.map f) : ks.Perm ((dd js).map f) := by
  rw [← dd_map inj]
  exact same_once one (dd_one _) fun k => (m k).trans dd_mem.symm
/-- sorted(s), s the set of some whole numbers -/
def rSortKI (P : Program) (w : World) : List V → Hp → VK → Prop := fun vs H Q => ∃ a ks js, vs = [.ref a] ∧ H a = some (KeysO P w a ks) ∧ (∀ k, k ∈ ks ↔ k ∈ (js : List Int).map Sum.inl) ∧ js.length < 1000 ∧ ∀ p, H p = none → Q (.ref p) (upd H p (.lst ((srtI js).map V.int)))
theorem vals_ints {bs : List Int} {us : List Value} (e : PySem.W.EachIs (fun v b => keyIs (.inl b) v = true) us bs) : Vals (bs.map V.int) us := by
  induction e with
  | nil => exact .nil
  | cons h _ ih =>
    obtain ⟨t, rfl⟩ := keyIs_int h
    exact .cons ⟨t, rfl⟩ ih
theorem vals_texts {bs : List Str} {us : List Value} (e : PySem.W.EachIs (fun v b => keyIs (.inr b) v = true) us bs) : Vals (bs.map V.str) us := by
  induction e with
  | nil => exact .nil
  | cons h _ ih =>
    obtain ⟨t, rfl⟩ := keyIs_str h
    exact .cons ⟨t, rfl⟩ ih
theorem cr_sortKI (hc : X.calm = true) (hu : X.A.units + 2 < cLine) : CallR X (.builtin "sorted") (rSortKI X.prog X.w) := by
  intro pins s σ H vs us Q I rv h
  obtain ⟨a, ks, js, rfl, ha, m, few, q⟩ := h
  rw [Vals.ref1 rv]
  have own : KeySet X.prog X.w s.heap a ks := (I.hok a _ ha).1
  have one : ks.Nodup := by
    obtain ⟨_, _, _, F, _⟩ := own
    exact F.one
  refine sorts_keys (key := Sum.inl) (unk := fun k => match k with | .inl i => i | .inr _ => 0) (enc := fun b : Int => PyData.int b) (fun b => rfl) own (I.ok.hd hc) (fun b => hu) (few_keys (fun a b e => by cases e; rfl) one m)
    (fun h b v e => by obtain ⟨t, rfl⟩ := keyIs_int e; exact .int _ _) (fun l => PySem.W.AllAlike.of fun b b' => rfl) (fun l => PySem.W.Sortable.others fun b => ⟨(fun z => nomatch z), fun xs z => nomatch z⟩) fun s' p out c cs keep g o le look pc each => ?_
  rw [PySem.W.dataLe_int (fun b : Int => b), rise_perm pc] at each
  have len : (srtI js).length ≤ js.length := by
    unfold srtI
    rw [(List.mergeSort_perm _ _).length_eq]
    exact dd_le js
  obtain ⟨fresh, J⟩ := fresh_list (xs := (srtI js).map V.int) I keep g o le look (vals_ints each) (by rw [List.length_map, sizeLine_eq]; omega)
  exact ⟨.ref p, _, J, rfl, q p fresh⟩
/-- sorted(s), s the set of some texts -/
def rSortKT (P : Program) (w : World) : List V → Hp → VK → Prop := fun vs H Q => ∃ a ks js, vs = [.ref a] ∧ H a = some (KeysO P w a ks) ∧ (∀ k, k ∈ ks ↔ k ∈ (js : List Str).map Sum.inr) ∧ js.length < 1000 ∧ ∀ p, H p = none → Q (.ref p) (upd H p (.lst ((onceS js).map V.str)))
theorem cr_sortKT (hc : X.calm = true) (hu : X.A.units + 2 < cLine) : CallR X (.builtin "sorted") (rSortKT X.prog X.w) := by
  intro pins s σ H vs us Q I rv h
  obtain ⟨a, ks, js, rfl, ha, m, few, q⟩ := h
  rw [Vals.ref1 rv]
  have own : KeySet X.prog X.w s.heap a ks := (I.hok a _ ha).1
  have one : ks.Nodup := by
    obtain ⟨_, _, _, F, _⟩ := own
    exact F.one
  refine sorts_keys (key := Sum.inr) (unk := fun k => match k with | .inr x => x | .inl _ => Str.empty) (enc := fun b : Str => PyData.str b) (fun b => rfl) own (I.ok.hd hc) (fun b => hu) (few_keys (fun a b e => by cases e; rfl) one m)
    (fun h b v e => by obtain ⟨t, rfl⟩ := keyIs_str e; exact .str _ _) alike_strs sortable_strs fun s' p out c cs keep g o le look pc each => ?_
  rw [srt_data, srtS_congr pc] at each
  have len : (onceS js).length ≤ js.length := by
    unfold onceS
    rw [srtS_len]
    exact dd_le js
  obtain ⟨fresh, J⟩ := fresh_list (xs := (onceS js).map V.str) I keep g o le look (vals_texts each) (by rw [List.length_map, sizeLine_eq]; omega)
  exact ⟨.ref p, _, J, rfl, q p fresh⟩
end
end RR
set_option maxHeartbeats 4000000
namespace RR
open PySem PySem.Spec PyProof.Rows L2 LamX
/-! ### an int on the left of a comparison -/
/-- the int's own comparison declines an instance -/
def DeclC (op : CmpOp) : Prop := ∃ (id : String) (B : Builtin), Slot "int" (cmpInfo op).2.1 id ∧ entryFor table id = some B ∧ (∀ a b, argsOk id ⟨[a, b], []⟩) ∧
  ∀ (a : Int) (t : Tok) (l C dx : Addr), Meets (B ⟨[.int a t, .ref l], []⟩) (fun _ R s => s.heap.get? l = some (PySem.W.instObj C dx) ∧ R (.ok (.ret Value.notImplemented)) s)
section
variable {X : Cx} {CX : CXT} {C f : Addr} {n : Nat} {g : Sp} {E : XK}
/-- C.m(k = v), C's static method -/
def tSMethK (C : Addr) (n : Nat) (sp : Sp) (gV : List V → List V → List V) (E : XK) (ta : TE) (tk : TA) : TE := fun σ H Q => ta σ H fun x H1 => x = .ref C ∧ tk σ H1 fun zs H2 => zs.length = n ∧ sp (gV [] zs) H2 Q E
/-- C(k = v, ..) -/
def tMakeK0 (C : Addr) (m : Nat) (sp : Sp) (gV : List V → List V → List V) (E : XK) (tk : TA) : TE := fun σ H Q => tk σ H fun zs H2 => zs.length = m ∧
  ∀ x dx, H2 x = none → H2 dx = none → dx ≠ x → sp (gV [.ref x] zs) (upd (upd H2 dx (.own x)) x (.ins C dx [])) (fun v H3 => v = .non ∧ Q (.ref x) H3) E
end
/-! ### texts of fractions -/
def txt (t b : Int) : Str := if b = 0 then "endless" else if b = 1 then Str.ofString (toString t) else Str.ofString (toString t) ++ "/" ++ Str.ofString (toString b)
def reprR (t b : Int) : Str := "Ratio(" ++ txt t b ++ ")"
def spStr (C : Addr) (f : Int → Int → Str) : Sp := fun vs H Q _ => ∃ x t b, vs = [.ref x] ∧ RatAt C H x t b ∧ Sm 1900 t ∧ Sm 1900 b ∧ Q (.str (f t b)) H
end RR
namespace RR
open PySem PySem.Spec PyProof.Rows L2 LamX
/-! ### the class Ratio, asked anything -/
/-- whether a value is an int and no bool -/
def IsI (K : PySem.W.Frag) (H : Hp) (v : V) (c : Bool) : Prop := (∃ i, v = .int i ∧ c = true) ∨ (∃ k, v = .bl k ∧ c = false) ∨ (∃ t, TyX K H v t ∧ PySem.W.kitOne K t (.type "int") = some false ∧ c = false)
def spIsIntA (K : PySem.W.Frag) : Sp := fun vs H Q _ => ∃ v c, vs = [v] ∧ IsI K H v c ∧ Q (.bl c) H
/-- an error of the class at B with the field at -/
def BadAt (B : Addr) (k : Int) (H : Hp) (E : XK) : Prop := ∀ d H', Same H H' → H' d = some (.xd [(("at" : Str), V.int k)]) → E (.ref B) (some d) H'
def spInitA (K : PySem.W.Frag) (C B : Addr) : Sp := fun vs H Q E => ∃ x dx v w, vs = [.ref x, v, w] ∧ H x = some (.ins C dx []) ∧
  ((∃ t b, v = .int t ∧ w = .int b ∧ 0 < b ∧ Sm 5000 t ∧ Sm 5000 b ∧ Q .non (upd (upd H x (.ins C dx [("top", .int (lo t b))])) x (.ins C dx (rfs (lo t b) (lb t b))))) ∨
    (IsI K H v false ∧ BadAt B 0 H E) ∨ (∃ t, v = .int t ∧ (IsI K H w false ∨ ∃ b, w = .int b ∧ b < 1) ∧ BadAt B 1 H E))
def spOfA (K : PySem.W.Frag) (C B : Addr) : Sp := fun vs H Q E => ∃ v, vs = [v] ∧ ((∃ t b, NumV C H v t b ∧ Sm 5000 t ∧ NewR C H Q t b) ∨ (∃ t, TyX K H v t ∧ PySem.W.kitOne K t (.ref C) = some false ∧ IsI K H v false ∧ BadAt B 0 H E))
def spWhole (C : Addr) : Sp := fun vs H Q _ => ∃ x t b, vs = [.ref x] ∧ RatAt C H x t b ∧ Q (.bl (decide (b = 1))) H
def spCmp (C : Addr) (R : Int → Int → Bool) : Sp := fun vs H Q _ => ∃ x y t b u d, vs = [.ref x, y] ∧ RatAt C H x t b ∧ NumV C H y u d ∧ Sm 1000 t ∧ Sm 1000 b ∧ Sm 1000 u ∧ Sm 1000 d ∧ ∀ H', Same H H' → Q (.bl (R (t * d) (u * b))) H'
def spEqA (K : PySem.W.Frag) (C : Addr) : Sp := fun vs H Q _ => ∃ x t b y, vs = [.ref x, y] ∧ RatAt C H x t b ∧ ((∃ a u d, y = .ref a ∧ RatAt C H a u d ∧ Q (.bl (decide (t = u ∧ b = d))) H) ∨ (∃ t, TyX K H y t ∧ PySem.W.kitOne K t (.ref C) = some false ∧ Q (.bl false) H))
theorem IsI.same {K : PySem.W.Frag} {H H' : Hp} {v : V} {c : Bool} (ty : ∀ t, TyX K H v t → TyX K H' v t) (h : IsI K H v c) : IsI K H' v c := by
  rcases h with h | h | ⟨t, a, b, e⟩
  · exact .inl h
  · exact .inr (.inl h)
  · exact .inr (.inr ⟨t, ty _ a, b, e⟩)
theorem tyX_keep {K : PySem.W.Frag} {H H' : Hp} (k : ∀ b o, H b = some o → H' b = some o) {v : V} {t : Value} (h : TyX K H v t) : TyX K H' v t := by
  cases h with
  | base b =>
    cases b with
    | non => exact .base .non
    | bl x => exact .base (.bl x)
    | int i => exact .base (.int i)
    | str x => exact .base (.str x)
    | flt x => exact .base (.flt x)
    | lst e => exact .base (.lst (k _ _ e))
    | frz e => exact .base (.frz (k _ _ e))
    | tup e => exact .base (.tup (k _ _ e))
    | dK e => exact .base (.dK (k _ _ e))
    | dT e => exact .base (.dT (k _ _ e))
    | ins e cl ha hn htk hm => exact .base (.ins (k _ _ e) cl ha hn htk hm)
  | byt b => exact .byt b
  | set e => exact .set (k _ _ e)
  | kList e c => exact .kList e c
  | kTuple e c => exact .kTuple e c
  | kDict e c => exact .kDict e c
  | fTuple e => exact .fTuple (k _ _ e)
  | fDict e => exact .fDict (k _ _ e)
end RR
namespace RR
open PySem PySem.Spec PyProof.Rows L2 LamX
end RR
set_option maxHeartbeats 4000000
namespace RR
open PySem PySem.Spec PyProof.Rows L2 LamX
/-! ### texts that may be shown -/
def Plain (x : Str) : Prop := ∀ c ∈ x.cps.toList, c < 16 ^ 8
/-- data that may be shown: at most n signs, at most m deep, no dict -/
structure Shows (n m : Nat) (d : PyData) : Prop where
  sh : d.showable = true
  nd : d.hasDict = false
  dp : d.depth ≤ m
  ln : d.shown.length ≤ n
theorem shows_bool (b : Bool) {n m : Nat} (h : 5 ≤ n) : Shows n m (.bool b) := ⟨rfl, rfl, Nat.zero_le _, Nat.le_trans (by cases b <;> decide) h⟩
theorem shows_int {i : Int} {n m : Nat} (p : Sm 1900 i) (h : 1921 ≤ n) : Shows n m (.int i) := ⟨decide_eq_true (log_of p), rfl, Nat.zero_le _, by
  have := int_text_length_le (k := 1920) (by decide) (log_of p)
  show (Str.ofString (toString i)).length ≤ n
  rw [PySem.ofString_length]
  omega⟩
inductive ShowsAll (n m : Nat) : List PyData → Prop
  | nil : ShowsAll n m []
  | cons {d : PyData} {ds : List PyData} : Shows n m d → ShowsAll n m ds → ShowsAll n m (d :: ds)
theorem ShowsAll.sh {n m : Nat} : ∀ {ds : List PyData}, ShowsAll n m ds → PyData.showableAll ds = true ∧ PyData.hasDictAll ds = false ∧ PyData.depthAll ds ≤ m ∧ ((PyData.shownAll ds).map (·.length)).sum ≤ ds.length * n ∧ (PyData.shownAll ds).length = ds.length
  | _, .nil => ⟨rfl, rfl, Nat.zero_le _, Nat.zero_le _, rfl⟩
  | _, .cons (d := d) (ds := ds) h t => by
    obtain ⟨a, b, c, e, f⟩ := t.sh
    refine ⟨?_, ?_, ?_, ?_, ?_⟩
    · show (d.showable && PyData.showableAll ds) = true
      rw [h.sh, a]; rfl
    · show (d.hasDict || PyData.hasDictAll ds) = false
      rw [h.nd, b]; rfl
    · show max d.depth (PyData.depthAll ds) ≤ m
      have := h.dp
      omega
    · show d.shown.length + ((PyData.shownAll ds).map (·.length)).sum ≤ (ds.length + 1) * n
      have := h.ln
      rw [Nat.add_mul]
      omega
    · show (PyData.shownAll ds).length + 1 = ds.length + 1
      rw [f]
theorem shows_list {n m k l : Nat} {ds : List PyData} (h : ShowsAll n m ds) (hl : ds.length * n + 2 * ds.length + 3 ≤ k) (hm : m + 1 ≤ l) : Shows k l (.list ds) := by
  obtain ⟨a, b, c, e, f⟩ := h.sh
  refine ⟨a, b, ?_, ?_⟩
  · show PyData.depthAll ds + 1 ≤ l
    omega
  · show (listText (PyData.shownAll ds)).length ≤ k
    have := listText_len_le (PyData.shownAll ds)
    rw [f] at this
    omega
/-- repr(x), x data -/
def rReprS (K : PySem.W.Frag) (n : Nat) : List V → Hp → VK → Prop := fun xs H Q => ∃ a d, xs = [.ref a] ∧ Dp K H (.ref a) d ∧ Shows n 20 d ∧ Q (.str d.shown) H
theorem call_reprS {X : Cx} {n : Nat} (hn : n ≤ sizeLine) (hu : X.A.units + 64 < cLine) (fr : Free X.A) : CallR X (.builtin "repr") (rReprS X.K n) := by
  intro pins s σ H xs us Q I rv h
  obtain ⟨a, d, rfl, hd, hs, q⟩ := h
  exact call_repr hu fr pins s σ H _ us Q I rv ⟨a, d, rfl, hd, hs.sh, hs.nd, hs.dp, Nat.le_trans hs.ln hn, q⟩
section
variable {X : Cx} {CX : CXT} {C f : Addr} {n : Nat} {g : Sp} {E : XK}
/-- bool(x), x an instance -/
def rBoolO (C : Addr) (g : Sp) (E : XK) : List V → Hp → VK → Prop := fun xs H Q => (∃ a dx fs, xs = [.ref a] ∧ H a = some (.ins C dx fs)) ∧ g xs H (fun v H' => ∃ b, v = .bl b ∧ Q v H') E
end
end RR
set_option maxHeartbeats 4000000
namespace RR
open PySem PySem.Spec PyProof.Rows L2 LamX
/-! ### what 'heard' makes of a lambda that may raise any of the three -/
def TTg (N B D : Addr) : (XK → Hp → VK → Prop) → Hp → VK → Prop := fun tl H Q => ∀ H0, Same H H0 → ∃ (E' : XK) (Q' : VK), tl E' H0 Q' ∧
  (∀ v H1, Q' v H1 → ∀ q H2, Same H1 H2 → H2 q = some (.lst [v]) → Q (.ref q) H2) ∧
  (∀ cls d H1, E' cls d H1 → (cls = .ref N ∧ d = none ∧ ∀ q H2, Same H1 H2 → H2 q = some (.tup [.str "none"]) → Q (.ref q) H2) ∨
    ∃ dd k, d = some dd ∧ H1 dd = some (.xd [(("at" : Str), V.int k)]) ∧ ((cls = .ref B ∧ ∀ q H2, Same H1 H2 → H2 q = some (.tup [.str "ratio", .int k]) → Q (.ref q) H2) ∨ (cls = .ref D ∧ ∀ q H2, Same H1 H2 → H2 q = some (.tup [.str "text", .int k]) → Q (.ref q) H2)))
/-- the wish that B comes at k -/
def wAt (B : Addr) (k : Int) (H0 : Hp) : XK := fun cls d H' => cls = .ref B ∧ ∃ dd, d = some dd ∧ Same H0 H' ∧ H' dd = some (.xd [(("at" : Str), V.int k)])
/-! ### signs -/
def OkP (t b : Int) : Prop := 0 < b ∨ (t = 1 ∧ b = 0)
def sgn (t b u d : Int) : Int := if b = 0 ∨ d = 0 then (if b = 0 then 1 else 0) - (if d = 0 then 1 else 0) else (if t * d - u * b > 0 then 1 else 0) - (if t * d - u * b < 0 then 1 else 0)
/-! ### promises of the law's defs -/
def spText : Sp := fun vs H Q _ => ∃ p t b, vs = [.ref p] ∧ Pr H p t b ∧ Sm 1900 t ∧ Sm 1900 b ∧ Q (.str (txt t b)) H
def spFace (C : Addr) : Sp := fun vs H Q _ => ∃ a p t b, vs = [.ref a, .ref p] ∧ RatAt C H a t b ∧ Pr H p t b ∧ Sm 1000 t ∧ Sm 1000 b ∧ ∀ H', Same H H' → Q (.bl true) H'
def spSign : Sp := fun vs H Q _ => ∃ p1 p2 t b u d, vs = [.ref p1, .ref p2] ∧ Pr H p1 t b ∧ Pr H p2 u d ∧ Sm 1000 t ∧ Sm 1000 b ∧ Sm 1000 u ∧ Sm 1000 d ∧ Q (.int (sgn t b u d)) H
def spSigns (C : Addr) : Sp := fun vs H Q _ => ∃ a y s t b u d, vs = [.ref a, y, .int s] ∧ RatAt C H a t b ∧ NumV C H y u d ∧ Sm 1000 t ∧ Sm 1000 b ∧ Sm 1000 u ∧ Sm 1000 d ∧ ((s < 0 ↔ t * d < u * b) ∧ (s = 0 ↔ t * d = u * b)) ∧ ∀ H', Same H H' → Q (.bl true) H'
end RR
namespace RR
open PySem PySem.Spec PyProof.Rows L2 LamX
end RR
set_option maxHeartbeats 4000000
namespace RR
open PySem PySem.Spec PyProof.Rows L2 LamX
/-! ### values that are no whole numbers -/
/-- what v names stays -/
def KeepV (H H' : Hp) (v : V) : Prop := ∀ a o, v = .ref a → H a = some o → (∀ ps, o ≠ .tbl ps) → H' a = some o
/-- what the class C says of a type of another kind -/
def OtherT (K : PySem.W.Frag) (C : Addr) (t : Value) : Prop := PySem.W.kitOne K t (.ref C) = some false ∧ PySem.W.notFirst K C t = true
structure Others (K : PySem.W.Frag) (C : Addr) : Prop where
  non : OtherT K C (.type "NoneType")
  bl : OtherT K C (.type "bool")
  int : OtherT K C (.type "int")
  str : OtherT K C (.type "str")
  lst : OtherT K C (.type "list")
  tup : OtherT K C (.type "tuple")
  dict : OtherT K C (.type "dict")
/-- a value of another kind -/
def NoR (K : PySem.W.Frag) (C : Addr) (H : Hp) (v : V) : Prop := ∃ t, TyX K H v t ∧ OtherT K C t
/-- no whole number: a ratio, or of another kind -/
def OddV (K : PySem.W.Frag) (C : Addr) (H : Hp) (v : V) : Prop := IsI K H v false ∧ ((∃ a t b, v = .ref a ∧ RatAt C H a t b ∧ Sm 100 t ∧ Sm 100 b) ∨ NoR K C H v)
section
variable {K : PySem.W.Frag} {C : Addr} {H : Hp}
end
/-- every one of some values -/
inductive AllV (R : V → Prop) : List V → Prop
  | nil : AllV R []
  | cons {x : V} {xs : List V} : R x → AllV R xs → AllV R (x :: xs)
/-! ### fractions -/
/-! ### promises -/
def spCompared : Sp := fun vs H Q _ => ∃ p1 p2 t b u d, vs = [.ref p1, .ref p2] ∧ Pr H p1 t b ∧ Pr H p2 u d ∧ LowE t b ∧ LowE u d ∧ Sm 1000 t ∧ Sm 1000 b ∧ Sm 1000 u ∧ Sm 1000 d ∧ ∀ H', Same H H' → Q (.bl true) H'
def spOdd (K : PySem.W.Frag) (C : Addr) : Sp := fun vs H Q _ => ∃ p c ns a g, vs = [.ref p] ∧ PenAt H p c ns a g ∧ a ≤ 99000 ∧
  ∀ v a' g' H', H' p = some (pen c a' g') → Keep p H H' → OddV K C H' v → v ≠ .ref p → a ≤ a' → a' ≤ a + 1 → Q v H'
def spOther : Sp := fun vs H Q _ => ∃ p q c ns a g t b, vs = [.ref p, .ref q] ∧ PenAt H p c ns a g ∧ a ≤ 98000 ∧ Pr H q t b ∧ Low t b ∧ Sm 100 t ∧ Sm 100 b ∧
  ∀ r u d a' g' H', H' p = some (pen c a' g') → Keep p H H' → Pr H' r u d → LowE u d → Sm 110 u → Sm 110 d → a ≤ a' → a' ≤ a + 6 → Q (.ref r) H'
def spRefX (T : List (Addr × Str)) : Sp := fun vs H Q _ => ∃ p c ns a g u l, vs = [.ref p, .int u, .int l] ∧ PenAt H p c ns a g ∧ a ≤ 98000 ∧ 0 < l ∧ Sm 1000 u ∧ Sm 1000 l ∧ Tabs T H ∧
  ∀ a' g' H', PenAt H' p c ns a' g' → a' ≤ a + 3 → Tabs T H' → Q (.bl true) H'
/-! ### a list of what was heard: errors with a field -/
def AtIs (H : Hp) (v : V) (k : Int) : Prop := ∃ z, v = .ref z ∧ H z = some (.tup [.str "ratio", .int k])
inductive EachA (R : V → Int → Prop) : List V → List Int → Prop
  | nil : EachA R [] []
  | cons {x : V} {o : Int} {xs : List V} {os : List Int} : R x o → EachA R xs os → EachA R (x :: xs) (o :: os)
def atD (k : Int) : PyData := .tuple [.str "ratio", .int k]
/-- under way: the list L of what was heard so far -/
structure HSt (T : List (Addr × Str)) (H0 H : Hp) (L : Addr) (os : List Int) : Prop where
  ex : ExtN H0 H
  l0 : ∀ u, H0 L = some u → ∃ ps, u = .tbl ps
  ls : ∃ xs, H L = some (.lst xs) ∧ EachA (AtIs H) xs os
  tb : Tabs T H
end RR
set_option maxHeartbeats 4000000
namespace RR
open PySem PySem.Spec PyProof.Rows L2
/-! ### errors of own classes as values -/
/-- a new error of C with the field f -/
def tMkV (f : Str) (C : Addr) (ta : TA) : TE := fun σ H Q => ta σ H fun vs H1 => ∃ v, vs = [v] ∧ ∀ a dd, H1 dd = none → H1 a = none → dd ≠ a → Q (.ref a) (upd (upd H1 dd (.xd [(f, v)])) a (HeldX (.ref C) (some dd) a))
theorem made_val {X : Cx} {pins : List (Addr × Obj)} {σ : L2.St} {H1 : Hp} {hp h' : Heap} {g : Array GenState} {dr : Drawn} {tk tk' : Nat} {os : OsState} {Q : VK} {e d C : Addr} {fs : List (Str × V)} {m : Str → Option Value} (I1 : Inv X pins σ H1 ⟨hp, g, dr, tk, os⟩)
    (keep : ∀ b o, hp.get? b = some o → h'.get? b = some o) (new : hp.objs.size ≤ e) (obj : ∃ oe vs, h'.get? e = some oe ∧ oe.cls = .ref C ∧ oe.dict = some d ∧ oe.data = .fields vs ∧ vs[1]? = some .none) (dbig : hp.objs.size ≤ d) (dne : d ≠ e) (ns : h'.Ns1 d m)
    (rel : ∀ f, RelO (List.lookup f fs) (m f)) (q : H1 d = none → H1 e = none → d ≠ e → Q (.ref e) (upd (upd H1 d (.xd fs)) e (HeldX (.ref C) (some d) e))) : EP X pins σ Q (.ref e) ⟨h', g, dr, tk', os⟩ := by
  obtain ⟨oe, fv, hoe, hc, hd, hdat, h1⟩ := obj
  obtain ⟨G', g1, g2⟩ := restrict h' fun b => decide (b ≠ e)
  have gk : ∀ b, b ≠ e → G'.get? b = h'.get? b := fun b hb => g1 b (decide_eq_true hb)
  have ge : G'.get? e = none := g2 e (by simp)
  have old : ∀ b o, hp.get? b = some o → G'.get? b = some o := fun b o q => (gk b (Nat.ne_of_lt (Nat.lt_of_lt_of_le (Heap.lt_size q) new))).trans (keep b o q)
  have ob : ObjOk X.prog X.w (upd H1 d (.xd fs)) G' d (.xd fs) := ⟨_, ns.at (fun o q => (gk d dne).trans q), rel⟩
  have J : Inv X pins σ (upd H1 d (.xd fs)) ⟨G', g, dr, tk', os⟩ := I1.laid (t' := tk') old dbig ob
  have nd := I1.hok.fresh dbig
  have ne := I1.hok.fresh new
  have ne2 : upd H1 d (.xd fs) e = none := (upd_ne dne.symm).trans ne
  have up : ∀ b o, G'.get? b = some o → h'.get? b = some o := fun b o z => by
    by_cases hb : b = e
    · rw [hb, ge] at z
      cases z
    · exact (gk b hb).symm.trans z
  have J2 : Inv X pins σ (upd (upd H1 d (.xd fs)) e (HeldX (.ref C) (some d) e)) ⟨h', g, dr, tk', os⟩ :=
    J.laidN (t' := tk') up ge ne2 ⟨⟨oe, hoe, ⟨hc, hd⟩, fv, hdat⟩, ⟨oe, hoe⟩, fun _ _ ⟨u, z1, z2⟩ k => ⟨u, k u z1, z2⟩⟩
  exact ⟨.ref e, _, J2, rfl, q nd ne dne⟩
end RR
namespace PySem
namespace LowN
open PySem.W PySem.Calls PyProof.Rows PySem.HandSPX
/-! ### the text of __init__ -/
def iA (p1 p2 : Pos) : Arguments := { posonlyargs := [], args := [{ arg := "self", annotation := none, pos := p1 }, { arg := "name", annotation := none, pos := p2 }], vararg := none, kwonlyargs := [], kw_defaults := [], kwarg := none, defaults := [] }
def iB (q1 q2 q3 q4 : Pos) : List Stmt := [.Assign [.Attribute (.Name "self" q1) "name" q2] (.Name "name" q3) q4]
def iS : Scope := { kind := .function, names := [(PySem.Str.ofString "self", .local), (PySem.Str.ofString "name", .local)], isGenerator := false, isCoroutine := false, more := [] }
/-- what the written part says of Low, at C, and of its __init__, at fI -/
structure LowTxt (K : Frag) (mg : Str → Option Value) (cn qn : Str) (C fI : Addr) : Prop where
  gC : mg cn = some (.ref C)
  cls : ∃ nm q N bs bm sn sub ab col dd k0 k1 k2 k3 k5, K.lookup C = some (excClassObj nm q C N bs bm true sn sub ab col dd k0 k1 k2 k3 k5 "ValueError.__new__") ∧ refsVE bm = true
  sa : findIn K (.ref C) "__setattr__" = some (some (.builtin "object.__setattr__"))
  ga : findIn K (.ref C) "__getattribute__" = some (some (.builtin "BaseException.__getattribute__"))
  gg : findIn K (.ref C) "__getattr__" = some none
  noN : findIn K (.ref C) "name" = some none
  iC : findIn K (.ref C) "__init__" = some (some (.ref fI))
  tC : typeIn K (.ref fI) = some (.type "function")
  kC : keepIn K (.ref C) = true
  exC : subIn K (.ref C) (.type "BaseException") = some true
  tyC : typeIn K (.ref C) = some (.type "type")
  hdC : hasDictIn K C = true
  te : exmOne K (.ref C) (.ref C) = some true
  fn : ∃ (oc : Value) (od : Option Addr) (doc pm : Value) (an : Option Addr) (cdv ct : Value) (osl : Array (Option Value)) (p1 p2 q1 q2 q3 q4 : Pos),
    K.lookup fI = some ⟨oc, od, .func (fnOf "__init__" qn (iA p1 p2) (iB q1 q2 q3 q4) iS .none .none doc pm an cdv ct), osl⟩ ∧ codeIn K cdv qn = true
theorem one_size (v : Value) : [v].length ≤ sizeLine := by
  rw [sizeLine_eq]
  exact (by decide : 1 ≤ 16777216)
theorem kept_but {K : Frag} {h h' : Heap} {x : Addr} (X : K.In h) (hx : K.lookup x = none) (k : ∀ b o, b ≠ x → h.get? b = some o → h'.get? b = some o) : K.In h' := fun a o e =>
  k a o (fun z => by rw [z, hx] at e; cases e) (X a o e)
theorem ldC {M : Model} {s : Shared} {name : Str} {scope : Scope} {L a : Addr} {cd : Value} {m : Str → Option Value} {x : Str} {pos : Pos} {v : Value} {Q : Value → Shared → Prop} {A : Around} {E : Value → Shared → Prop} (hn : s.heap.Ns L m) (hv : m x = some v) (h : Q v s)
    (hk : scope.kind = .function := by rfl) (hl : (envOfC name scope L a cd).kindOf x = some .local := by rfl) (hd : (x == ("__debug__" : Str)) = false := by decide) :
    wpAny M A (eval (.Name x pos) (envOfC name scope L a cd)) Q E s := wpAny_Name (wpAny_loadName_local hk hl hn hv h) hd
/-- what __init__ leaves of a fresh exception at x -/
structure InitEnd (h h' : Heap) (x C dx t1 : Addr) (v : Value) : Prop where
  keep : ∀ b o, b ≠ x → h.get? b = some o → h'.get? b = some o
  obj : h'.get? x = some { cls := .ref C, dict := some dx, data := .fields #[.ref t1, .none, .none, .none, .bool false, .none] }
  dbig : h.objs.size ≤ dx
  dne : dx ≠ x
  ns : h'.Ns1 dx (fun y => if y = "name" then some v else none)
/-- a made Low -/
structure OwnMade (h h' : Heap) (e C d : Addr) (v : Value) : Prop where
  keep : ∀ b o, h.get? b = some o → h'.get? b = some o
  new : h.objs.size ≤ e
  obj : ∃ oe vs, h'.get? e = some oe ∧ oe.cls = .ref C ∧ oe.dict = some d ∧ oe.data = .fields vs ∧ vs[1]? = some .none
  dbig : h.objs.size ≤ d
  dne : d ≠ e
  ns : h'.Ns1 d (fun y => if y = "name" then some v else none)
section
variable {prog : Program} {w : World} {A : Around} {E : Value → Shared → Prop} {R : Result → Shared → Prop} {s : Shared} {K : Frag} {mg : Str → Option Value} {C fI : Addr} {cn qn : Str}
theorem low_init (T : LowTxt K mg cn qn C fI) {x t0 : Addr} {v : Value} (X : K.In s.heap) (hlim : s.heap.NoLimit) (hx : s.heap.get? x = some (excO C t0)) (hnx : K.lookup x = none) (hroom : A.depth < recursionLimit)
    (hq : ∀ h' tk dx, InitEnd s.heap h' x C dx t0 v → R (.ok (.ret .none)) { s with heap := h', toks := tk }) :
    codeAny (model prog w) A (.call (.ref fI) ⟨[.ref x, v], []⟩) R s := by
  obtain ⟨oc, od, doc, pm, an, cdv, ct, osl, p1, p2, q1, q2, q3, q4, ho, hcd⟩ := T.fn
  obtain ⟨nm, q, N, bs, bm, sn, sub, ab, col, dd, k0, k1, k2, k3, k5, hC, hbm⟩ := T.cls
  have hcl : clsIn K C = some { name := nm, bases := bs, mro := .ref C :: bm, ns := N, qualname := q, hasDict := true, slotNames := sn, subclasses := sub, abstract := ab, collection := col, hasDel := false } := by unfold clsIn; rw [hC] <;> rfl
  refine Att.call_fn (binds := [("self", .ref x), ("name", v)]) X hlim ho hcd hroom (BindsTo.of_eq (by first | rfl | with_unfolding_all rfl)) (by first | rfl | decide | with_unfolding_all rfl) (fun s₁ IC => ?_) rfl rfl rfl
  obtain ⟨h₁, tk₁, rfl⟩ := IC.toInCall.same
  have k : ∀ b o, s.heap.get? b = some o → h₁.get? b = some o := IC.toInCall.keep
  have hn := IC.toInCall.ns
  have hxL : s.heap.objs.size ≠ x := Nat.ne_of_gt (Heap.lt_size hx)
  have X₁ : K.In h₁ := X.keeps k
  have hx₁ := k _ _ hx
  -- self.by = by
  show wpAny _ _ (execs _ _) _ _ _
  refine wpAny_execs_cons (plainObj_wpAny_Assign_Attribute ?_)
  refine ldC (v := v) hn (by first | rfl | with_unfolding_all rfl | kernel_rfl) (ldC (v := .ref x) hn (by first | rfl | with_unfolding_all rfl | kernel_rfl) ?_)
  refine set_plain X₁ (ox := excO C t0) (od := none) ⟨hx₁, rfl, rfl, trivial⟩ T.sa ?_
  refine exc_osa X₁ hx₁ hcl (show refsVE (.ref C :: bm) = true from hbm) rfl T.noN (fun h₃ tk₃ dx k₃ dn dne hx₃ hn₃ => ?_)
  show wpAny _ _ (execs _ _) _ _ _
  have z : s.heap.objs.size < h₁.objs.size := hn.lt
  exact wpAny_execs_nil (hq h₃ tk₃ dx ⟨fun b o hb e => k₃ b o hb (k b o e), hx₃, Nat.le_of_lt (Nat.lt_of_lt_of_le z dn), dne, hn₃⟩)
theorem low_made (T : LowTxt K mg cn qn C fI) {v : Value} (X : K.In s.heap) (hlim : s.heap.NoLimit) (hroom : A.depth + 1 < recursionLimit)
    (hq : ∀ h' tk e d, OwnMade s.heap h' e C d v → R (.ok (.ret (.ref e))) { s with heap := h', toks := tk }) :
    codeAny (model prog w) A (.call (.ref C) ⟨[v], []⟩) R s := by
  obtain ⟨nm, q, N, bs, bm, sn, sub, ab, col, dd, k0, k1, k2, k3, k5, hC, hbm⟩ := T.cls
  obtain ⟨hp, g, dr, tk, os⟩ := s
  have k : ∀ b o, hp.get? b = some o → ((hp.push (kdv_tup [v])).push (excO C hp.objs.size)).get? b = some o := fun b o e => Heap.get?_push_of_some _ (Heap.get?_push_of_some _ e)
  have hget : ((hp.push (kdv_tup [v])).push (excO C hp.objs.size)).get? (hp.objs.size + 1) = some (excO C hp.objs.size) := by heap_get
  have hnx : K.lookup (hp.objs.size + 1) = none := by
    cases e : K.lookup (hp.objs.size + 1) with
    | none => rfl
    | some o =>
      have z : hp.get? (hp.objs.size + 1) = some o := X _ _ e
      exact absurd (Nat.lt_of_succ_lt (Heap.lt_size z)) (Nat.lt_irrefl _)
  refine call_own F.excBase_ValueError (fun X => refsVE_contains X bm hbm) (X _ _ hC) (looks_findIn X T.iC) (fun self => bind_fn X self T.tC) (one_size v) ?_
  refine low_init (s := ⟨(hp.push (kdv_tup [v])).push (excO C hp.objs.size), g, dr, tk, os⟩) T (X.keeps k) (hlim.keeps k) hget hnx ?_ fun h' tk' dx ⟨k', hx, dn, dne, hns⟩ => ?_
  · show A.depth + 1 < recursionLimit
    exact hroom
  · have old : ∀ b o, hp.get? b = some o → h'.get? b = some o := fun b o e => k' b o (Nat.ne_of_lt (Nat.lt_succ_of_lt (Heap.lt_size e))) (k b o e)
    have z : hp.objs.size + 1 + 1 ≤ dx := by
      first
        | (simpa only [Heap.size_push] using dn)
        | exact dn
        | (have q := dn; rw [Heap.size_push, Heap.size_push] at q; exact q)
    exact ⟨rfl, hq h' tk' (hp.objs.size + 1) dx ⟨old, Nat.le_succ _, ⟨_, _, hx, rfl, rfl, rfl, rfl⟩, Nat.le_trans (Nat.le_trans (Nat.le_succ _) (Nat.le_succ _)) z, dne, hns⟩⟩
end
end LowN
end PySem
namespace L2
open PySem PySem.Spec PyProof.Rows
theorem relO_lowN {v : V} {v' : Value} (r : RelV v v') (f : Str) : RelO (List.lookup f [(("name" : Str), v)]) (if f = "name" then some v' else none) := by
  by_cases hw : f = "name"
  · subst hw
    rw [if_pos rfl]
    have q : List.lookup ("name" : Str) [(("name" : Str), v)] = some v := by simp [List.lookup]
    rw [q]
    exact r
  · rw [if_neg hw]
    have qw : (f == ("name" : Str)) = false := by simpa using hw
    have q2 : List.lookup f [(("name" : Str), v)] = none := by simp [List.lookup, qw]
    rw [q2]
    trivial
section
variable {X : Cx} {C fI : Addr} {cn qn : Str}
/-- Low(e) -/
def tMkLowN (C : Addr) (ta : TA) : St → Hp → XK → Prop := fun σ H Q => ta σ H fun vs H1 => ∃ v, vs = [v] ∧ ∀ d, H1 d = none → Q (.ref C) (some d) (upd H1 d (.xd [(("name" : Str), v)]))
/-- raise Low(e) -/
def tRaiseLowN (C : Addr) (W : WX) (ta : TA) : TS := fun _ σ H => tMkLowN C ta σ H fun cls d H' => W cls d σ H'
/-- low.by, low the exception that the suite holds (at a; its class cls, its dict d) -/
def tByLowN (C : Addr) (a : Addr) (cls : Value) (d : Option Addr) (te : TE) : TE := fun σ H Q => te σ H fun x H1 => x = .ref a ∧ cls = .ref C ∧ ∃ (dd : Addr) (v : V), d = some dd ∧ H1 dd = some (.xd [(("name" : Str), v)]) ∧ Q v H1
end
end L2

namespace PySem
namespace LowM
open PySem.W PySem.Calls PyProof.Rows PySem.HandSPX
/-! ### the text of __init__ -/
def iA (p1 p2 : Pos) : Arguments := { posonlyargs := [], args := [{ arg := "self", annotation := none, pos := p1 }, { arg := "most", annotation := none, pos := p2 }], vararg := none, kwonlyargs := [], kw_defaults := [], kwarg := none, defaults := [] }
def iB (q1 q2 q3 q4 : Pos) : List Stmt := [.Assign [.Attribute (.Name "self" q1) "most" q2] (.Name "most" q3) q4]
def iS : Scope := { kind := .function, names := [(PySem.Str.ofString "self", .local), (PySem.Str.ofString "most", .local)], isGenerator := false, isCoroutine := false, more := [] }
/-- what the written part says of Low, at C, and of its __init__, at fI -/
structure LowTxt (K : Frag) (mg : Str → Option Value) (cn qn : Str) (C fI : Addr) : Prop where
  gC : mg cn = some (.ref C)
  cls : ∃ nm q N bs bm sn sub ab col dd k0 k1 k2 k3 k5, K.lookup C = some (excClassObj nm q C N bs bm true sn sub ab col dd k0 k1 k2 k3 k5 "ValueError.__new__") ∧ refsVE bm = true
  sa : findIn K (.ref C) "__setattr__" = some (some (.builtin "object.__setattr__"))
  ga : findIn K (.ref C) "__getattribute__" = some (some (.builtin "BaseException.__getattribute__"))
  gg : findIn K (.ref C) "__getattr__" = some none
  noN : findIn K (.ref C) "most" = some none
  iC : findIn K (.ref C) "__init__" = some (some (.ref fI))
  tC : typeIn K (.ref fI) = some (.type "function")
  kC : keepIn K (.ref C) = true
  exC : subIn K (.ref C) (.type "BaseException") = some true
  tyC : typeIn K (.ref C) = some (.type "type")
  hdC : hasDictIn K C = true
  te : exmOne K (.ref C) (.ref C) = some true
  fn : ∃ (oc : Value) (od : Option Addr) (doc pm : Value) (an : Option Addr) (cdv ct : Value) (osl : Array (Option Value)) (p1 p2 q1 q2 q3 q4 : Pos),
    K.lookup fI = some ⟨oc, od, .func (fnOf "__init__" qn (iA p1 p2) (iB q1 q2 q3 q4) iS .none .none doc pm an cdv ct), osl⟩ ∧ codeIn K cdv qn = true
theorem one_size (v : Value) : [v].length ≤ sizeLine := by
  rw [sizeLine_eq]
  exact (by decide : 1 ≤ 16777216)
theorem kept_but {K : Frag} {h h' : Heap} {x : Addr} (X : K.In h) (hx : K.lookup x = none) (k : ∀ b o, b ≠ x → h.get? b = some o → h'.get? b = some o) : K.In h' := fun a o e =>
  k a o (fun z => by rw [z, hx] at e; cases e) (X a o e)
theorem ldC {M : Model} {s : Shared} {name : Str} {scope : Scope} {L a : Addr} {cd : Value} {m : Str → Option Value} {x : Str} {pos : Pos} {v : Value} {Q : Value → Shared → Prop} {A : Around} {E : Value → Shared → Prop} (hn : s.heap.Ns L m) (hv : m x = some v) (h : Q v s)
    (hk : scope.kind = .function := by rfl) (hl : (envOfC name scope L a cd).kindOf x = some .local := by rfl) (hd : (x == ("__debug__" : Str)) = false := by decide) :
    wpAny M A (eval (.Name x pos) (envOfC name scope L a cd)) Q E s := wpAny_Name (wpAny_loadName_local hk hl hn hv h) hd
/-- what __init__ leaves of a fresh exception at x -/
structure InitEnd (h h' : Heap) (x C dx t1 : Addr) (v : Value) : Prop where
  keep : ∀ b o, b ≠ x → h.get? b = some o → h'.get? b = some o
  obj : h'.get? x = some { cls := .ref C, dict := some dx, data := .fields #[.ref t1, .none, .none, .none, .bool false, .none] }
  dbig : h.objs.size ≤ dx
  dne : dx ≠ x
  ns : h'.Ns1 dx (fun y => if y = "most" then some v else none)
/-- a made Low -/
structure OwnMade (h h' : Heap) (e C d : Addr) (v : Value) : Prop where
  keep : ∀ b o, h.get? b = some o → h'.get? b = some o
  new : h.objs.size ≤ e
  obj : ∃ oe vs, h'.get? e = some oe ∧ oe.cls = .ref C ∧ oe.dict = some d ∧ oe.data = .fields vs ∧ vs[1]? = some .none
  dbig : h.objs.size ≤ d
  dne : d ≠ e
  ns : h'.Ns1 d (fun y => if y = "most" then some v else none)
section
variable {prog : Program} {w : World} {A : Around} {E : Value → Shared → Prop} {R : Result → Shared → Prop} {s : Shared} {K : Frag} {mg : Str → Option Value} {C fI : Addr} {cn qn : Str}
theorem low_init (T : LowTxt K mg cn qn C fI) {x t0 : Addr} {v : Value} (X : K.In s.heap) (hlim : s.heap.NoLimit) (hx : s.heap.get? x = some (excO C t0)) (hnx : K.lookup x = none) (hroom : A.depth < recursionLimit)
    (hq : ∀ h' tk dx, InitEnd s.heap h' x C dx t0 v → R (.ok (.ret .none)) { s with heap := h', toks := tk }) :
    codeAny (model prog w) A (.call (.ref fI) ⟨[.ref x, v], []⟩) R s := by
  obtain ⟨oc, od, doc, pm, an, cdv, ct, osl, p1, p2, q1, q2, q3, q4, ho, hcd⟩ := T.fn
  obtain ⟨nm, q, N, bs, bm, sn, sub, ab, col, dd, k0, k1, k2, k3, k5, hC, hbm⟩ := T.cls
  have hcl : clsIn K C = some { name := nm, bases := bs, mro := .ref C :: bm, ns := N, qualname := q, hasDict := true, slotNames := sn, subclasses := sub, abstract := ab, collection := col, hasDel := false } := by unfold clsIn; rw [hC] <;> rfl
  refine Att.call_fn (binds := [("self", .ref x), ("most", v)]) X hlim ho hcd hroom (BindsTo.of_eq (by first | rfl | with_unfolding_all rfl)) (by first | rfl | decide | with_unfolding_all rfl) (fun s₁ IC => ?_) rfl rfl rfl
  obtain ⟨h₁, tk₁, rfl⟩ := IC.toInCall.same
  have k : ∀ b o, s.heap.get? b = some o → h₁.get? b = some o := IC.toInCall.keep
  have hn := IC.toInCall.ns
  have hxL : s.heap.objs.size ≠ x := Nat.ne_of_gt (Heap.lt_size hx)
  have X₁ : K.In h₁ := X.keeps k
  have hx₁ := k _ _ hx
  -- self.by = by
  show wpAny _ _ (execs _ _) _ _ _
  refine wpAny_execs_cons (plainObj_wpAny_Assign_Attribute ?_)
  refine ldC (v := v) hn (by first | rfl | with_unfolding_all rfl | kernel_rfl) (ldC (v := .ref x) hn (by first | rfl | with_unfolding_all rfl | kernel_rfl) ?_)
  refine set_plain X₁ (ox := excO C t0) (od := none) ⟨hx₁, rfl, rfl, trivial⟩ T.sa ?_
  refine exc_osa X₁ hx₁ hcl (show refsVE (.ref C :: bm) = true from hbm) rfl T.noN (fun h₃ tk₃ dx k₃ dn dne hx₃ hn₃ => ?_)
  show wpAny _ _ (execs _ _) _ _ _
  have z : s.heap.objs.size < h₁.objs.size := hn.lt
  exact wpAny_execs_nil (hq h₃ tk₃ dx ⟨fun b o hb e => k₃ b o hb (k b o e), hx₃, Nat.le_of_lt (Nat.lt_of_lt_of_le z dn), dne, hn₃⟩)
theorem low_made (T : LowTxt K mg cn qn C fI) {v : Value} (X : K.In s.heap) (hlim : s.heap.NoLimit) (hroom : A.depth + 1 < recursionLimit)
    (hq : ∀ h' tk e d, OwnMade s.heap h' e C d v → R (.ok (.ret (.ref e))) { s with heap := h', toks := tk }) :
    codeAny (model prog w) A (.call (.ref C) ⟨[v], []⟩) R s := by
  obtain ⟨nm, q, N, bs, bm, sn, sub, ab, col, dd, k0, k1, k2, k3, k5, hC, hbm⟩ := T.cls
  obtain ⟨hp, g, dr, tk, os⟩ := s
  have k : ∀ b o, hp.get? b = some o → ((hp.push (kdv_tup [v])).push (excO C hp.objs.size)).get? b = some o := fun b o e => Heap.get?_push_of_some _ (Heap.get?_push_of_some _ e)
  have hget : ((hp.push (kdv_tup [v])).push (excO C hp.objs.size)).get? (hp.objs.size + 1) = some (excO C hp.objs.size) := by heap_get
  have hnx : K.lookup (hp.objs.size + 1) = none := by
    cases e : K.lookup (hp.objs.size + 1) with
    | none => rfl
    | some o =>
      have z : hp.get? (hp.objs.size + 1) = some o := X _ _ e
      exact absurd (Nat.lt_of_succ_lt (Heap.lt_size z)) (Nat.lt_irrefl _)
  refine call_own F.excBase_ValueError (fun X => refsVE_contains X bm hbm) (X _ _ hC) (looks_findIn X T.iC) (fun self => bind_fn X self T.tC) (one_size v) ?_
  refine low_init (s := ⟨(hp.push (kdv_tup [v])).push (excO C hp.objs.size), g, dr, tk, os⟩) T (X.keeps k) (hlim.keeps k) hget hnx ?_ fun h' tk' dx ⟨k', hx, dn, dne, hns⟩ => ?_
  · show A.depth + 1 < recursionLimit
    exact hroom
  · have old : ∀ b o, hp.get? b = some o → h'.get? b = some o := fun b o e => k' b o (Nat.ne_of_lt (Nat.lt_succ_of_lt (Heap.lt_size e))) (k b o e)
    have z : hp.objs.size + 1 + 1 ≤ dx := by
      first
        | (simpa only [Heap.size_push] using dn)
        | exact dn
        | (have q := dn; rw [Heap.size_push, Heap.size_push] at q; exact q)
    exact ⟨rfl, hq h' tk' (hp.objs.size + 1) dx ⟨old, Nat.le_succ _, ⟨_, _, hx, rfl, rfl, rfl, rfl⟩, Nat.le_trans (Nat.le_trans (Nat.le_succ _) (Nat.le_succ _)) z, dne, hns⟩⟩
end
end LowM
end PySem
namespace L2
open PySem PySem.Spec PyProof.Rows
section
variable {X : Cx} {C fI : Addr} {cn qn : Str}
/-- Low(e) -/
def tMkLowM (C : Addr) (ta : TA) : St → Hp → XK → Prop := fun σ H Q => ta σ H fun vs H1 => ∃ v, vs = [v] ∧ ∀ d, H1 d = none → Q (.ref C) (some d) (upd H1 d (.xd [(("most" : Str), v)]))
/-- raise Low(e) -/
def tRaiseLowM (C : Addr) (W : WX) (ta : TA) : TS := fun _ σ H => tMkLowM C ta σ H fun cls d H' => W cls d σ H'
/-- low.by, low the exception that the suite holds (at a; its class cls, its dict d) -/
def tByLowM (C : Addr) (a : Addr) (cls : Value) (d : Option Addr) (te : TE) : TE := fun σ H Q => te σ H fun x H1 => x = .ref a ∧ cls = .ref C ∧ ∃ (dd : Addr) (v : V), d = some dd ∧ H1 dd = some (.xd [(("most" : Str), v)]) ∧ Q v H1
end
end L2

namespace PySem
namespace LowC
open PySem.W PySem.Calls PyProof.Rows PySem.HandSPX
/-! ### the text of __init__ -/
def iA (p1 p2 : Pos) : Arguments := { posonlyargs := [], args := [{ arg := "self", annotation := none, pos := p1 }, { arg := "cut", annotation := none, pos := p2 }], vararg := none, kwonlyargs := [], kw_defaults := [], kwarg := none, defaults := [] }
def iB (q1 q2 q3 q4 : Pos) : List Stmt := [.Assign [.Attribute (.Name "self" q1) "cut" q2] (.Name "cut" q3) q4]
def iS : Scope := { kind := .function, names := [(PySem.Str.ofString "self", .local), (PySem.Str.ofString "cut", .local)], isGenerator := false, isCoroutine := false, more := [] }
/-- what the written part says of Low, at C, and of its __init__, at fI -/
structure LowTxt (K : Frag) (mg : Str → Option Value) (cn qn : Str) (C fI : Addr) : Prop where
  gC : mg cn = some (.ref C)
  cls : ∃ nm q N bs bm sn sub ab col dd k0 k1 k2 k3 k5, K.lookup C = some (excClassObj nm q C N bs bm true sn sub ab col dd k0 k1 k2 k3 k5 "ValueError.__new__") ∧ refsVE bm = true
  sa : findIn K (.ref C) "__setattr__" = some (some (.builtin "object.__setattr__"))
  ga : findIn K (.ref C) "__getattribute__" = some (some (.builtin "BaseException.__getattribute__"))
  gg : findIn K (.ref C) "__getattr__" = some none
  noN : findIn K (.ref C) "cut" = some none
  iC : findIn K (.ref C) "__init__" = some (some (.ref fI))
  tC : typeIn K (.ref fI) = some (.type "function")
  kC : keepIn K (.ref C) = true
  exC : subIn K (.ref C) (.type "BaseException") = some true
  tyC : typeIn K (.ref C) = some (.type "type")
  hdC : hasDictIn K C = true
  te : exmOne K (.ref C) (.ref C) = some true
  fn : ∃ (oc : Value) (od : Option Addr) (doc pm : Value) (an : Option Addr) (cdv ct : Value) (osl : Array (Option Value)) (p1 p2 q1 q2 q3 q4 : Pos),
    K.lookup fI = some ⟨oc, od, .func (fnOf "__init__" qn (iA p1 p2) (iB q1 q2 q3 q4) iS .none .none doc pm an cdv ct), osl⟩ ∧ codeIn K cdv qn = true
theorem one_size (v : Value) : [v].length ≤ sizeLine := by
  rw [sizeLine_eq]
  exact (by decide : 1 ≤ 16777216)
theorem kept_but {K : Frag} {h h' : Heap} {x : Addr} (X : K.In h) (hx : K.lookup x = none) (k : ∀ b o, b ≠ x → h.get? b = some o → h'.get? b = some o) : K.In h' := fun a o e =>
  k a o (fun z => by rw [z, hx] at e; cases e) (X a o e)
theorem ldC {M : Model} {s : Shared} {name : Str} {scope : Scope} {L a : Addr} {cd : Value} {m : Str → Option Value} {x : Str} {pos : Pos} {v : Value} {Q : Value → Shared → Prop} {A : Around} {E : Value → Shared → Prop} (hn : s.heap.Ns L m) (hv : m x = some v) (h : Q v s)
    (hk : scope.kind = .function := by rfl) (hl : (envOfC name scope L a cd).kindOf x = some .local := by rfl) (hd : (x == ("__debug__" : Str)) = false := by decide) :
    wpAny M A (eval (.Name x pos) (envOfC name scope L a cd)) Q E s := wpAny_Name (wpAny_loadName_local hk hl hn hv h) hd
/-- what __init__ leaves of a fresh exception at x -/
structure InitEnd (h h' : Heap) (x C dx t1 : Addr) (v : Value) : Prop where
  keep : ∀ b o, b ≠ x → h.get? b = some o → h'.get? b = some o
  obj : h'.get? x = some { cls := .ref C, dict := some dx, data := .fields #[.ref t1, .none, .none, .none, .bool false, .none] }
  dbig : h.objs.size ≤ dx
  dne : dx ≠ x
  ns : h'.Ns1 dx (fun y => if y = "cut" then some v else none)
/-- a made Low -/
structure OwnMade (h h' : Heap) (e C d : Addr) (v : Value) : Prop where
  keep : ∀ b o, h.get? b = some o → h'.get? b = some o
  new : h.objs.size ≤ e
  obj : ∃ oe vs, h'.get? e = some oe ∧ oe.cls = .ref C ∧ oe.dict = some d ∧ oe.data = .fields vs ∧ vs[1]? = some .none
  dbig : h.objs.size ≤ d
  dne : d ≠ e
  ns : h'.Ns1 d (fun y => if y = "cut" then some v else none)
section
variable {prog : Program} {w : World} {A : Around} {E : Value → Shared → Prop} {R : Result → Shared → Prop} {s : Shared} {K : Frag} {mg : Str → Option Value} {C fI : Addr} {cn qn : Str}
theorem low_init (T : LowTxt K mg cn qn C fI) {x t0 : Addr} {v : Value} (X : K.In s.heap) (hlim : s.heap.NoLimit) (hx : s.heap.get? x = some (excO C t0)) (hnx : K.lookup x = none) (hroom : A.depth < recursionLimit)
    (hq : ∀ h' tk dx, InitEnd s.heap h' x C dx t0 v → R (.ok (.ret .none)) { s with heap := h', toks := tk }) :
    codeAny (model prog w) A (.call (.ref fI) ⟨[.ref x, v], []⟩) R s := by
  obtain ⟨oc, od, doc, pm, an, cdv, ct, osl, p1, p2, q1, q2, q3, q4, ho, hcd⟩ := T.fn
  obtain ⟨nm, q, N, bs, bm, sn, sub, ab, col, dd, k0, k1, k2, k3, k5, hC, hbm⟩ := T.cls
  have hcl : clsIn K C = some { name := nm, bases := bs, mro := .ref C :: bm, ns := N, qualname := q, hasDict := true, slotNames := sn, subclasses := sub, abstract := ab, collection := col, hasDel := false } := by unfold clsIn; rw [hC] <;> rfl
  refine Att.call_fn (binds := [("self", .ref x), ("cut", v)]) X hlim ho hcd hroom (BindsTo.of_eq (by first | rfl | with_unfolding_all rfl)) (by first | rfl | decide | with_unfolding_all rfl) (fun s₁ IC => ?_) rfl rfl rfl
  obtain ⟨h₁, tk₁, rfl⟩ := IC.toInCall.same
  have k : ∀ b o, s.heap.get? b = some o → h₁.get? b = some o := IC.toInCall.keep
  have hn := IC.toInCall.ns
  have hxL : s.heap.objs.size ≠ x := Nat.ne_of_gt (Heap.lt_size hx)
  have X₁ : K.In h₁ := X.keeps k
  have hx₁ := k _ _ hx
  -- self.by = by
  show wpAny _ _ (execs _ _) _ _ _
  refine wpAny_execs_cons (plainObj_wpAny_Assign_Attribute ?_)
  refine ldC (v := v) hn (by first | rfl | with_unfolding_all rfl | kernel_rfl) (ldC (v := .ref x) hn (by first | rfl | with_unfolding_all rfl | kernel_rfl) ?_)
  refine set_plain X₁ (ox := excO C t0) (od := none) ⟨hx₁, rfl, rfl, trivial⟩ T.sa ?_
  refine exc_osa X₁ hx₁ hcl (show refsVE (.ref C :: bm) = true from hbm) rfl T.noN (fun h₃ tk₃ dx k₃ dn dne hx₃ hn₃ => ?_)
  show wpAny _ _ (execs _ _) _ _ _
  have z : s.heap.objs.size < h₁.objs.size := hn.lt
  exact wpAny_execs_nil (hq h₃ tk₃ dx ⟨fun b o hb e => k₃ b o hb (k b o e), hx₃, Nat.le_of_lt (Nat.lt_of_lt_of_le z dn), dne, hn₃⟩)
theorem low_made (T : LowTxt K mg cn qn C fI) {v : Value} (X : K.In s.heap) (hlim : s.heap.NoLimit) (hroom : A.depth + 1 < recursionLimit)
    (hq : ∀ h' tk e d, OwnMade s.heap h' e C d v → R (.ok (.ret (.ref e))) { s with heap := h', toks := tk }) :
    codeAny (model prog w) A (.call (.ref C) ⟨[v], []⟩) R s := by
  obtain ⟨nm, q, N, bs, bm, sn, sub, ab, col, dd, k0, k1, k2, k3, k5, hC, hbm⟩ := T.cls
  obtain ⟨hp, g, dr, tk, os⟩ := s
  have k : ∀ b o, hp.get? b = some o → ((hp.push (kdv_tup [v])).push (excO C hp.objs.size)).get? b = some o := fun b o e => Heap.get?_push_of_some _ (Heap.get?_push_of_some _ e)
  have hget : ((hp.push (kdv_tup [v])).push (excO C hp.objs.size)).get? (hp.objs.size + 1) = some (excO C hp.objs.size) := by heap_get
  have hnx : K.lookup (hp.objs.size + 1) = none := by
    cases e : K.lookup (hp.objs.size + 1) with
    | none => rfl
    | some o =>
      have z : hp.get? (hp.objs.size + 1) = some o := X _ _ e
      exact absurd (Nat.lt_of_succ_lt (Heap.lt_size z)) (Nat.lt_irrefl _)
  refine call_own F.excBase_ValueError (fun X => refsVE_contains X bm hbm) (X _ _ hC) (looks_findIn X T.iC) (fun self => bind_fn X self T.tC) (one_size v) ?_
  refine low_init (s := ⟨(hp.push (kdv_tup [v])).push (excO C hp.objs.size), g, dr, tk, os⟩) T (X.keeps k) (hlim.keeps k) hget hnx ?_ fun h' tk' dx ⟨k', hx, dn, dne, hns⟩ => ?_
  · show A.depth + 1 < recursionLimit
    exact hroom
  · have old : ∀ b o, hp.get? b = some o → h'.get? b = some o := fun b o e => k' b o (Nat.ne_of_lt (Nat.lt_succ_of_lt (Heap.lt_size e))) (k b o e)
    have z : hp.objs.size + 1 + 1 ≤ dx := by
      first
        | (simpa only [Heap.size_push] using dn)
        | exact dn
        | (have q := dn; rw [Heap.size_push, Heap.size_push] at q; exact q)
    exact ⟨rfl, hq h' tk' (hp.objs.size + 1) dx ⟨old, Nat.le_succ _, ⟨_, _, hx, rfl, rfl, rfl, rfl⟩, Nat.le_trans (Nat.le_trans (Nat.le_succ _) (Nat.le_succ _)) z, dne, hns⟩⟩
end
end LowC
end PySem
namespace L2
open PySem PySem.Spec PyProof.Rows
section
variable {X : Cx} {C fI : Addr} {cn qn : Str}
/-- Low(e) -/
def tMkLowC (C : Addr) (ta : TA) : St → Hp → XK → Prop := fun σ H Q => ta σ H fun vs H1 => ∃ v, vs = [v] ∧ ∀ d, H1 d = none → Q (.ref C) (some d) (upd H1 d (.xd [(("cut" : Str), v)]))
/-- raise Low(e) -/
def tRaiseLowC (C : Addr) (W : WX) (ta : TA) : TS := fun _ σ H => tMkLowC C ta σ H fun cls d H' => W cls d σ H'
/-- low.by, low the exception that the suite holds (at a; its class cls, its dict d) -/
def tByLowC (C : Addr) (a : Addr) (cls : Value) (d : Option Addr) (te : TE) : TE := fun σ H Q => te σ H fun x H1 => x = .ref a ∧ cls = .ref C ∧ ∃ (dd : Addr) (v : V), d = some dd ∧ H1 dd = some (.xd [(("cut" : Str), v)]) ∧ Q v H1
end
end L2

namespace RR
open PySem PySem.Spec PyProof.Rows L2

end RR
set_option maxHeartbeats 4000000
namespace RR
open PySem PySem.Spec PyProof.Rows L2
/-! ### data with dicts, shown -/
mutual
inductive Dq (K : PySem.W.Frag) (H : Hp) : V → PyData → Prop
  | non : Dq K H .non .none
  | bl (b : Bool) : Dq K H (.bl b) (.bool b)
  | int (i : Int) : Dq K H (.int i) (.int i)
  | str (x : Str) : Dq K H (.str x) (.str x)
  | lst {a : Addr} {xs : List V} {ds : List PyData} : a ≠ sysModules → H a = some (.lst xs) → DqAll K H xs ds → Dq K H (.ref a) (.list ds)
  | tup {a : Addr} {xs : List V} {ds : List PyData} : SqT K H a xs → DqAll K H xs ds → Dq K H (.ref a) (.tuple ds)
  | dic {a : Addr} {kvs : List (Key × V)} {es : List (PyData × PyData)} : H a = some (.dK kvs) → DqKV K H kvs es → Dq K H (.ref a) (.dict es)
inductive DqAll (K : PySem.W.Frag) (H : Hp) : List V → List PyData → Prop
  | nil : DqAll K H [] []
  | cons {v : V} {vs : List V} {d : PyData} {ds : List PyData} : Dq K H v d → DqAll K H vs ds → DqAll K H (v :: vs) (d :: ds)
inductive DqKV (K : PySem.W.Frag) (H : Hp) : List (Key × V) → List (PyData × PyData) → Prop
  | nil : DqKV K H [] []
  | cons {x : Str} {v : V} {r : List (Key × V)} {d : PyData} {es : List (PyData × PyData)} : Dq K H v d → DqKV K H r es → DqKV K H ((.inr x, v) :: r) ((.str x, d) :: es)
end
section
variable {X : Cx} {pins : List (Addr × Obj)} {σ : L2.St} {H : Hp} {s : Shared}
mutual
theorem Dq.reads (I : Inv X pins σ H s) : ∀ (d : PyData) (v : V) (u : Value), Dq X.K H v d → RelV v u → ∃ as, Reads s.heap u d as ∧ sysModules ∉ as
  | .none, _, _, h, r => by
    cases h
    cases r
    exact ⟨_, .none, by simp⟩
  | .bool b, _, _, h, r => by
    cases h
    cases r
    exact ⟨_, .bool b, by simp⟩
  | .int i, _, _, h, r => by
    cases h
    obtain ⟨t, rfl⟩ := r
    exact ⟨_, .int i t, by simp⟩
  | .str x, _, _, h, r => by
    cases h
    obtain ⟨t, rfl⟩ := r
    exact ⟨_, .str x t, by simp⟩
  | .list ds, _, _, h, r => by
    cases h with
    | lst am e ha =>
      cases r
      obtain ⟨_, its, n, rv, hg⟩ := (show ObjOk X.prog X.w H s.heap _ (.lst _) from I.hok _ _ e)
      obtain ⟨as, hr, hn⟩ := Dq.readsAll I ds _ its ha rv
      refine ⟨_, .list hg rfl rfl (by simpa using hr), fun z => ?_⟩
      rcases List.mem_cons.mp z with z | z
      · exact am z.symm
      · exact hn z
  | .tuple ds, _, _, h, r => by
    cases h with
    | tup hs ha =>
      cases r
      obtain ⟨its, rv, ⟨o, ho, hc, n, hd⟩, _⟩ := I.tuple hs
      obtain ⟨as, hr, hn⟩ := Dq.readsAll I ds _ its ha rv
      exact ⟨_, .tuple ho hc hd hr, hn⟩
  | .dict es, _, _, h, r => by
    cases h with
    | dic e ha =>
      cases r
      obtain ⟨_, hs, vs, kv, o, en, ep, hg, hx, hd, _, hp, _⟩ := (show ObjOk X.prog X.w H s.heap _ (.dK _) from I.hok _ _ e)
      obtain ⟨as, bs, h1, h2, n1, n2⟩ := Dq.readsKV I es _ vs en.toList ha kv hp
      refine ⟨_, .dict hg hx.1 hd h1 h2, fun z => ?_⟩
      rcases List.mem_append.mp z with z | z
      · rcases List.mem_cons.mp z with z | z
        · exact beq_eq_false_iff_ne.mp hs z.symm
        · exact n1 z
      · exact n2 z
theorem Dq.readsAll (I : Inv X pins σ H s) : ∀ (ds : List PyData) (vs : List V) (us : List Value), DqAll X.K H vs ds → Vals vs us → ∃ as, ReadsAll s.heap us ds as ∧ sysModules ∉ as
  | [], _, _, h, r => by
    cases h
    cases r
    exact ⟨_, .nil, by simp⟩
  | d :: ds, _, _, h, r => by
    cases h with
    | cons h1 h2 =>
      cases r with
      | cons r1 r2 =>
        obtain ⟨as, q1, m1⟩ := Dq.reads I d _ _ h1 r1
        obtain ⟨bs, q2, m2⟩ := Dq.readsAll I ds _ _ h2 r2
        refine ⟨_, .cons q1 q2, fun z => ?_⟩
        rcases List.mem_append.mp z with z | z
        · exact m1 z
        · exact m2 z
theorem Dq.readsKV (I : Inv X pins σ H s) : ∀ (es : List (PyData × PyData)) (kvs : List (Key × V)) (vs : List (Key × Value)) (en : List DictEntry), DqKV X.K H kvs es → KV kvs vs → Pairs (mixKind X.prog X.w) en vs →
      ∃ as bs, ReadsAll s.heap (en.map (·.key)) (es.map (·.1)) as ∧ ReadsAll s.heap (en.map (·.val)) (es.map (·.2)) bs ∧ sysModules ∉ as ∧ sysModules ∉ bs
  | [], _, _, _, h, r, p => by
    cases h
    cases r
    cases p
    exact ⟨_, _, .nil, .nil, by simp, by simp⟩
  | (_, d) :: es, _, _, _, h, r, p => by
    cases h with
    | cons h1 h2 =>
      cases r with
      | cons r1 r2 =>
        cases p with
        | cons p1 p2 p3 =>
          obtain ⟨e1, e2⟩ := r1
          rw [← e1] at p1
          have ks := keyIs_shape (show L2.keyIs (.inr _) _ = true from p1)
          rcases ks with ⟨i, t, z, _⟩ | ⟨y, t, z, hk⟩
          · cases z
          · cases z
            obtain ⟨bs, q1, m1⟩ := Dq.reads I d _ _ h1 e2
            obtain ⟨as2, bs2, q2, q3, m2, m3⟩ := Dq.readsKV I es _ _ _ h2 r2 p3
            refine ⟨_, _, .cons (hk ▸ Reads.str _ t) q2, .cons (p2 ▸ q1) q3, ?_, ?_⟩
            · simpa using m2
            · intro z
              rcases List.mem_append.mp z with z | z
              · exact m1 z
              · exact m3 z
end
/-- data that may be shown, dicts too -/
structure ShowsQ (n m : Nat) (d : PyData) : Prop where
  sh : d.showable = true
  dp : d.depth ≤ m
  ln : d.shown.length ≤ n
/-- repr(x), x a list of such data -/
def rReprQ (K : PySem.W.Frag) (n : Nat) : List V → Hp → VK → Prop := fun xs H Q => ∃ a ys ds, xs = [.ref a] ∧ H a = some (.lst ys) ∧ DqAll K H ys ds ∧ ShowsQ n 20 (.list ds) ∧ Q (.str (PyData.list ds).shown) H
theorem call_reprQ {n : Nat} (hn : n ≤ sizeLine) (hu : X.A.units + 64 < cLine) (fr : Free X.A) : CallR X (.builtin "repr") (rReprQ X.K n) := by
  intro pins s σ H xs us Q I rv h
  obtain ⟨a, ys, ds, rfl, e, hd, hs, q⟩ := h
  obtain ⟨u, rfl, ru⟩ := rv.one
  obtain rfl : u = .ref a := ru
  obtain ⟨_, its, m, rI, hg⟩ := (show ObjOk X.prog X.w H s.heap a (.lst ys) from I.hok a _ e)
  obtain ⟨as, hr, hm⟩ := Dq.readsAll I ds _ its hd rI
  have dp : PyData.depthAll ds + 1 ≤ 20 := hs.dp
  have lz : (listText (PyData.shownAll ds)).length ≤ sizeLine := Nat.le_trans hs.ln hn
  have key : ∀ A : Around, A.guards = some [] → A.units + 63 < cLine → wpAny (model X.prog X.w) A (call (.builtin "list.__repr__") [.ref a]) (fun r s' => ∃ y, r = .str (PyData.list ds).shown y ∧ ∃ h' tk, s' = { s with heap := h', toks := tk } ∧ ∀ b o, s.heap.get? b = some o → h'.get? b = some o) X.xe s := by
    intro A gd au
    obtain ⟨bs, hb, hk⟩ := ReprAllK.of_readsAll (prog := X.prog) (w := X.w) hr hs.sh (fun _ => hm) (fun t ht => Nat.le_trans (listText_mem_le ht) lz)
    have top : Reads s.heap (.ref a) (.list ds) (a :: as) := .list hg rfl rfl (by simpa using hr)
    have na : a ∉ bs := not_mem_of_deeper top (by show PyData.depthAll ds < PyData.depthAll ds + 1; omega) hb
    cases its with
    | nil =>
      cases hr
      exact call_list_repr_empty ⟨_, hg, rfl⟩ hg rfl ⟨_, rfl, _, _, rfl, fun _ _ z => z⟩
    | cons x l => exact call_list_reprK hg rfl rfl na (by simpa using hk.length_eq) (fun i y z => hk.item i y (by simpa using z)) gd (fun b _ => Clear.nil b) (by omega) (fun _ _ z => z) (fun h' u tk k => ⟨u, rfl, h', tk, rfl, k⟩) lz
  refine call_repr_slot (by omega) (show s.TypeIs (.ref a) "list" from ⟨_, hg, rfl⟩) F.slot_list_repr.toG ?_
  refine wpAny_mono (key X.A.in1 fr (by show X.A.units + 1 + 63 < cLine; omega)) (fun r s' z => ?_) fun _ _ z => z
  obtain ⟨y, rfl, h', tk, rfl, k⟩ := z
  exact ⟨_, y, rfl, .str (PyData.list ds).shown, H, I.kept (t' := tk) k, ⟨y, rfl⟩, q⟩
end
/-- a list's display, its address told to be another one than the interpreter's dict -/
def tLstB (t : TA) : TE := fun σ H Q => t σ H fun xs H1 => xs.length ≤ sizeLine ∧ ∀ p, p ≠ sysModules → H1 p = none → Q (.ref p) (upd H1 p (.lst xs))
theorem pe_lstB {X : Cx} {es : List Expr} {t : TA} {pos : Pos} (h : PA X es t) : PE X (.List es pos) (tLstB t) := by
  refine ⟨fun pins s σ H Q I hq => wpAny_List_spliced (thn (h.run pos pins s σ H _ I hq) fun us s1 hh => ?_)⟩
  obtain ⟨xs, H1, I1, r, z, q⟩ := hh
  have hf : H1 s1.heap.objs.size = none := I1.hok.fresh (Nat.le_refl _)
  have hm : s1.heap.objs.size ≠ sysModules := Nat.ne_of_gt I1.big
  exact ⟨by rw [← r.length]; exact z, .ref s1.heap.objs.size, _, I1.laid (o := .lst xs) (t' := s1.toks) (fun b u e => Heap.get?_push_of_some _ e) (Nat.le_refl _) ⟨z, us, 0, r, Heap.get?_push_size _ rfl⟩, rfl, q _ hm hf⟩
end RR
set_option maxHeartbeats 4000000
namespace RR
open PySem PySem.Spec PyProof.Rows L2 LamX
/-! ### repr of a list that holds own instances -/
/-- the text of an item: a whole number, or a ratio -/
def ItemT (C : Addr) (H : Hp) (v : V) (x : Str) : Prop := (∃ n : Int, v = .int n ∧ Sm 1900 n ∧ x = Str.ofString (toString n)) ∨ (∃ c t b, v = .ref c ∧ RatAt C H c t b ∧ Sm 1900 t ∧ Sm 1900 b ∧ x = reprR t b)
section
variable {X : Cx} {CX : CXT} {C f : Addr} {n : Nat} {E : XK}
/-- repr(x), x a list of whole numbers and ratios -/
def rReprL (C : Addr) : List V → Hp → VK → Prop := fun xs H Q => ∃ a vs ts, xs = [.ref a] ∧ H a = some (.lst vs) ∧ ts.length = vs.length ∧ (∀ (i : Nat) v, vs[i]? = some v → ∃ t, ts[i]? = some t ∧ ItemT C H v t) ∧ (listText ts).length ≤ sizeLine ∧ ∀ H', Same H H' → Q (.str (listText ts)) H'
end
end RR
set_option maxHeartbeats 4000000
namespace RR
open PySem PySem.Spec PyProof.Rows L2 LamX
open AutoSeq1 (wpAny_loadPart')
/-! ### enumerate(tuple) -/
theorem meets_enumT (l : Addr) (items : Array Value) (n : Nat) (dct : Option Addr) (sl : Array (Option Value)) :
    Meets (Builtin.«enumerate.__new__» ⟨[.type "enumerate", .ref l], []⟩) (fun _ R s => s.heap.get? l = some { cls := .type "tuple", dict := dct, data := .seq items n, slots := sl } ∧
      R (.ok (.ret (.ref (s.heap.push { cls := .type "tuple_iterator", data := .fields #[.ref l, .int 0 0] }).objs.size)))
        { s with heap := (s.heap.push { cls := .type "tuple_iterator", data := .fields #[.ref l, .int 0 0] }).push { cls := .type "enumerate", data := .fields #[.none, .bool false, .ref s.heap.objs.size, rawInt 0, .none, .none] } }) :=
  .of_wp fun prog w A R s h => by
    obtain ⟨hp, g, d, tk, os⟩ := s; obtain ⟨hl, h⟩ := h
    have hsub := sub_enumerate
    have hL : Heap.IsTuple (Shared.heap ⟨hp, g, d, tk, os⟩) l items := ⟨_, hl, rfl, n, rfl⟩
    wp_walk using wpAny_loadPart' hl
    refine wpAny_stack_any fun st => wpAny_pure ?_
    split
    · rename_i c _ _ _ _ _
      cases (c == Value.type "enumerate")
      · wp_walk using wpAny_loadPart' hl, wpAny_pyIter_tuple hL
        exact ⟨_, rfl, h⟩
      · wp_walk using wpAny_loadPart' hl, wpAny_pyIter_tuple hL
        exact ⟨_, rfl, h⟩
    · wp_walk using wpAny_loadPart' hl, wpAny_pyIter_tuple hL
      exact ⟨_, rfl, h⟩
section
variable {prog : Program} {w : World} {A : Around} {E : Value → Shared → Prop} {s : Shared}
theorem call_enumT {l : Addr} {items : Array Value} {Q : Value → Shared → Prop} (hL : s.heap.IsTuple l items)
    (h : ∀ h', IsEnum h' (s.heap.objs.size + 1) s.heap.objs.size 0 .none → h'.IsTupleIter s.heap.objs.size l 0 → h'.objs.size = s.heap.objs.size + 2 →
      (∀ b o, s.heap.get? b = some o → h'.get? b = some o) → Q (.ref (s.heap.objs.size + 1)) { s with heap := h' }) :
    wpAny (model prog w) A (call (.type "enumerate") [.ref l]) Q E s := by
  obtain ⟨⟨c, dct, dt, sl⟩, hl, hc, n, hd⟩ := hL
  replace hc : c = .type "tuple" := hc
  replace hd : dt = .seq items n := hd
  subst hc hd
  refine callType_new PySem.F.called_enumerate (by decide) (PySem.F.typeCall_enumerate_1 _) (PySem.F.newCall_enumerate_1 _) (fun obj => PySem.F.args_object_init_2 obj _) PySem.F.entry_enumerate_new
    (meets_enumT l items n dct sl) ⟨hl, ?_⟩
  have hz : (s.heap.push { cls := .type "tuple_iterator", data := .fields #[.ref l, .int 0 0] }).objs.size = s.heap.objs.size + 1 := Heap.size_push ..
  show _ ∧ _
  rw [hz]
  have he : IsEnum ((s.heap.push { cls := .type "tuple_iterator", data := .fields #[.ref l, .int 0 0] }).push
      { cls := .type "enumerate", data := .fields #[.none, .bool false, .ref s.heap.objs.size, rawInt 0, .none, .none] }) (s.heap.objs.size + 1) s.heap.objs.size 0 .none := by
    have := Heap.get?_push_size (s.heap.push { cls := .type "tuple_iterator", data := .fields #[.ref l, .int 0 0] })
      (o := { cls := .type "enumerate", data := .fields #[.none, .bool false, .ref s.heap.objs.size, rawInt 0, .none, .none] }) rfl
    rw [hz] at this; exact this
  refine ⟨⟨_, he, rfl⟩, h _ he ⟨_, Heap.get?_push_of_some _ (Heap.get?_push_size _ rfl), rfl, rfl⟩ (by rw [Heap.size_push, hz]) fun b o x => Heap.get?_push_of_some _ (Heap.get?_push_of_some _ x)⟩
end
def ItT (K : PySem.W.Frag) (a : Addr) : It :=
  ⟨fun i H => ∃ (xs : List V) (x : V), SqT K H a xs ∧ xs[i]? = some x, fun i H v H' => ∃ T x, v = .ref T ∧ H T = none ∧ H' = upd H T (.tup [.int (i : Nat), x]) ∧ ∀ xs, SqT K H a xs → xs[i]? = some x, fun i H => ∃ xs : List V, SqT K H a xs ∧ xs.length ≤ i⟩
theorem turn_enumT {P : Program} {w : World} {K : PySem.W.Frag} {elts : List Expr} {kk : Nat} {tpos : Pos} (a e it : Addr) :
    Turn P w K (.Tuple elts kk tpos) (ItT K a) [e, it] e (fun i h => (∃ old, IsEnum h e it ((i : Nat) : Int) old) ∧ h.IsTupleIter it a i ∧ e ≠ it) where
  mem := by simp
  obj := fun i h st b hb => by
    obtain ⟨⟨old, he⟩, ⟨o, ho, hc, hd⟩, _⟩ := st
    have e' : b = e ∨ b = it := by simpa using hb
    rcases e' with z | z
    · rw [z]; exact ⟨_, he, fun v q => nomatch q⟩
    · rw [z]; exact ⟨o, ho, fun v q => by rw [hd] at q; cases q⟩
  keep := fun i h h' st k => let ⟨⟨old, he⟩, hi, hne⟩ := st; ⟨⟨old, k e (by simp) _ he⟩, hi.at fun o q => k it (by simp) o q, hne⟩
  item := by
    intro X hP hw hK hc i pins s σ H E I hf st hg
    subst hP hw hK
    obtain ⟨⟨old, he⟩, hit, hne⟩ := st
    obtain ⟨xs, x, hq, hx⟩ := hg
    obtain ⟨its, rv, p, hz⟩ := I.tuple hq
    have p : s.heap.IsTuple a its.toArray := p
    obtain ⟨u, hu, ru⟩ := rv.get hx
    have hel : e < s.heap.objs.size := Heap.lt_size he
    have hil : it < s.heap.objs.size := by obtain ⟨_, q, _⟩ := hit; exact Heap.lt_size q
    have hea : e ≠ a := by
      rintro rfl
      obtain ⟨o, h1, h2, _⟩ := p
      rw [he] at h1
      rw [← Option.some.inj h1] at h2
      exact absurd (congrArg (fun v => match v with | Value.type n => n | _ => "") h2) (show ¬ ("enumerate" : String) = "tuple" by decide)
    have hai : a ≠ it := by
      rintro rfl
      obtain ⟨o, h1, h2, _⟩ := p
      obtain ⟨o', h3, h4, _⟩ := hit
      rw [h1] at h3
      rw [← Option.some.inj h3, h2] at h4
      exact absurd (congrArg (fun v => match v with | Value.type n => n | _ => "") h4) (by decide)
    have hlen : i < its.toArray.size := by
      have := (List.getElem?_eq_some_iff.mp hu).1
      simpa using this
    refine wpAny_pyNext_enum_itemD (Draws.tuple (A := X.A.in1) (I.ok.hd hc) it a hai its.toArray) he ⟨hit, p⟩ hlen hne (by simp [hne, hea]) fun x' h' tk hPx ho hst hT hsz hk => ?_
    obtain rfl : x' = u := by
      have e1 : its.toArray[i]? = some u := by simpa using hu
      rw [show its.toArray[i]? = some x' from hPx] at e1
      exact Option.some.inj e1
    refine ⟨_, rfl, wpAny_letOwnedTupleGo_enum (s := { s with heap := h', toks := tk + 1 }) ho fun h'' he' sb => ?_⟩
    have hT2 : h''.get? s.heap.objs.size = some { cls := .type "tuple", data := .seq #[.int i tk, x'] } := (sb.2 _ (Nat.ne_of_gt hel)).trans hT
    have new : ObjOk X.prog X.w (upd H s.heap.objs.size (.tup [.int (i : Nat), x])) h'' s.heap.objs.size (.tup [.int (i : Nat), x]) :=
      ⟨by show 2 ≤ sizeLine; decide, [.int i tk, x'], .cons ⟨_, rfl⟩ (.cons ru .nil), ⟨_, hT2, rfl, _, rfl⟩⟩
    have I1 : Inv X pins σ (upd H s.heap.objs.size (.tup [.int (i : Nat), x])) { s with heap := h'', toks := tk + 1 } :=
      I.turnedNew (ch := [e, it]) (fun b ob hb q => (sb.2 b (fun z => hb (by simp [z]))).trans (hk b ob (fun z => hb (by simp [z])) (fun z => hb (by simp [z])) q)) hf (Nat.le_refl _) new
    refine ⟨.ref s.heap.objs.size, _, I1, rfl, ⟨_, x, rfl, I.hok.fresh (Nat.le_refl _), rfl, fun ys hy => by rw [I.tuple_inj hy hq]; exact hx⟩, ⟨⟨x', ?_⟩, hst.1.at fun o q => (sb.2 it (Ne.symm hne)).trans q, hne⟩, fun b hb => ?_⟩
    · have e1 : ((i + 1 : Nat) : Int) = (i : Int) + 1 := by omega
      rw [e1]; exact he'
    · have hb' : b < s.heap.objs.size := by
        have e' : b = e ∨ b = it := by simpa using hb
        rcases e' with z | z
        · rw [z]; exact hel
        · rw [z]; exact hil
      rw [upd_ne (Nat.ne_of_lt hb')]
      exact (hf b hb).1
  done := by
    intro X hP hw hK hc i pins s σ H E I hf st hg
    subst hP hw hK
    obtain ⟨⟨old, he⟩, hit, hne⟩ := st
    obtain ⟨xs, hq, hx⟩ := hg
    obtain ⟨its, rv, p, hz⟩ := I.tuple hq
    have p : s.heap.IsTuple a its.toArray := p
    obtain ⟨f0, f1, f2, f3, f4, f5⟩ := hf it (by simp)
    have hl := rv.length
    have hT : s.TypeIs (.ref e) "enumerate" := ⟨_, he, rfl⟩
    unfold pyNext
    refine wpAny_bind (wpAny_attempt (wpAny_callSpecial?_slot (name := Str.ofString "__next__") hT PySem.F.slot_enumerate_next
      (wpAny_call_entry PySem.F.slot_enumerate_next hT PySem.F.entry_enumerate_next ?_ (PySem.F.args_enumerate_next_1 _))))
    show wpAny _ _ (field (.ref e) 2 >>= _) _ _ _
    refine wpAny_bind (wpAny_field he rfl (x := .ref it) rfl ?_)
    refine wpAny_bind (wpAny_nextOf_tuple_end (I.ok.hd hc) hit p (by simp; omega) fun h' x he' hx' => ?_)
    obtain ⟨o, ho, hc'⟩ := hx'
    refine wpAny_bind (wpAny_isInstance (T := "StopIteration") (b := true) ⟨o, ho, hc'⟩ isSubtype_stop ?_)
    exact wpAny_pure ⟨rfl, I.turned (t' := s.toks) (fun b o hb q => he' b o hb q) f0 f1 f3 f4 f5⟩
  self := fun A i s Q E st h => let ⟨⟨_, he⟩, _⟩ := st; wpAny_pyIter_enum he h
def iEnumT (K : PySem.W.Frag) (ta : TA) : TI := fun σ H R => ta σ H fun vs H1 => ∃ a xs, vs = [.ref a] ∧ SqT K H1 a xs ∧ R (ItT K a) H1
theorem pi_enumT {X : Cx} {e : Expr} {ta : TA} {p pos tpos : Pos} {elts : List Expr} {kk : Nat} (hg : Gl X "enumerate") (hm : X.mg "enumerate" = none) (ha : PA X [e] ta) (hs : starEach [e] X.env = [(false, eval e X.env)] := by rfl) :
    PI X (.Tuple elts kk tpos) (.Call (.Name "enumerate" p) [e] [] pos) (iEnumT X.K ta) := by
  refine ⟨fun pins s σ H R I h => ?_⟩
  refine Call_ (ld_blt I hg hm boot_enumerate (PyProof.Rows.callWith_type1 (thn (ha.run pos pins s σ H _ I h) fun us s1 ⟨vs, H1, I1, r1, q1⟩ => ?_) hs rfl))
  obtain ⟨a, xs, ex, hq, q⟩ := q1
  subst ex
  cases r1 with
  | cons r rr =>
    cases rr
    cases r
    obtain ⟨its, rv, p', hz⟩ := I1.tuple hq
    refine call_enumT (show s1.heap.IsTuple a its.toArray from p') fun h' he hit hsz hk => wpAny_pyIter_enum he ?_
    have I2 : Inv X pins σ H1 { s1 with heap := h' } := I1.kept (t' := s1.toks) hk
    refine ⟨s1.heap.objs.size + 1, [s1.heap.objs.size + 1, s1.heap.objs.size], _, _, H1, rfl, I2, turn_enumT a (s1.heap.objs.size + 1) s1.heap.objs.size, ⟨⟨.none, he⟩, hit, Nat.succ_ne_self _⟩, fun b hb => ?_, q⟩
    have e' : b = s1.heap.objs.size + 1 ∨ b = s1.heap.objs.size := by simpa using hb
    have hle : s1.heap.objs.size ≤ b := by
      rcases e' with z | z
      · rw [z]; exact Nat.le_add_right _ _
      · rw [z]; exact Nat.le_refl _
    exact I1.fpOk hle (I1.hok.fresh hle)
theorem walk_enumT {K : PySem.W.Frag} {a : Addr} {xs : List V} : Walk (ItT K a) xs.length (fun H => SqT K H a xs) (YPair (fun i => some (.int (i : Nat))) (fun i => xs[i]?)) := by
  refine ⟨fun i _ hi q => ⟨xs, xs[i], q, by simp [hi]⟩, fun _ q => ⟨xs, q, Nat.le_refl _⟩, fun i H v H' _ q y => ?_⟩
  obtain ⟨T, x, h1, h2, h3, h4⟩ := y
  exact ⟨T, .int (i : Nat), x, h1, h2, h3, rfl, h4 xs q⟩
/-- one of two ways -/
def iOr (w1 w2 : TI) : TI := fun σ H R => w1 σ H R ∨ w2 σ H R
theorem pi_or {X : Cx} {tg e : Expr} {w1 w2 : TI} (h1 : PI X tg e w1) (h2 : PI X tg e w2) : PI X tg e (iOr w1 w2) :=
  ⟨fun pins s σ H R I h => h.elim (h1.run pins s σ H R I) (h2.run pins s σ H R I)⟩
end RR
set_option maxHeartbeats 4000000
namespace RR
open PySem PySem.Spec PyProof.Rows L2
/-! ### ratios as rational numbers -/
/-! ### sizes -/
def SQ (n : Nat) (q : Rat) : Prop := Sm n q.num ∧ Sm n (q.den : Int)
/-! ### the heap's ratios -/
def RQ (C : Addr) (H : Hp) (a : Addr) (q : Rat) : Prop := RatAt C H a q.num (q.den : Int)
/-- a Ratio, or an int that stands for one -/
def NQ (C : Addr) (H : Hp) (v : V) (q : Rat) : Prop := (∃ a, v = .ref a ∧ RQ C H a q) ∨ ∃ i : Int, v = .int i ∧ q = (i : Rat)
/-- what a new Ratio is -/
abbrev NewQ (C : Addr) (H : Hp) (Q : VK) (q : Rat) : Prop := ∀ a H', Same H H' → RQ C H' a q → Q (.ref a) H'
end RR
set_option maxHeartbeats 4000000
namespace RR
open PySem PySem.Spec PyProof.Rows L2
/-! ### reckoning with rational numbers -/
section
variable {C N : Addr} {H : Hp} {Q : VK} {E : XK} {x : Addr} {y : V} {q r : Rat} {n m : Nat} {i : Int}
def qabs (q : Rat) : Rat := if q < 0 then -q else q
/-! ### the order -/
end
end RR
set_option maxHeartbeats 4000000
namespace RR
open PySem PySem.Spec PyProof.Rows L2
/-! ### quotients and rests of rational numbers -/
/-- the whole quotient -/
def qdiv (q r : Rat) : Int := (q.num * (r.den : Int)).fdiv ((q.den : Int) * r.num)
/-- a rest as it is to be -/
def InR (s r : Rat) : Prop := (0 < r → 0 ≤ s ∧ s < r) ∧ (r < 0 → r < s ∧ s ≤ 0)
end RR
set_option maxHeartbeats 4000000
namespace RR
open PySem PySem.Spec PyProof.Rows L2
def spMod2 (C N : Addr) : Sp := fun vs H Q E => ∃ x y t b u d, vs = [.ref x, y] ∧ RatAt C H x t b ∧ NumV C H y u d ∧ 0 < b ∧ 0 < d ∧ Sm 250 t ∧ Sm 250 b ∧ Sm 250 u ∧ Sm 250 d ∧
  (u ≠ 0 → NewR C H Q (lo (rT t b u d ((t * d).fdiv (b * u))) (b * d)) (lb (rT t b u d ((t * d).fdiv (b * u))) (b * d))) ∧ (u = 0 → ∀ H', Same H H' → E (.ref N) none H')
section
variable {C N : Addr} {H : Hp} {Q : VK} {E : XK} {x : Addr} {y : V} {q r : Rat} {n m : Nat} {i : Int}
end
end RR
set_option maxHeartbeats 4000000
namespace RR
open PySem PySem.Spec PyProof.Rows L2 PyProof.Rows.LSm
/-! ### any of a list of bools -/
def rAnyB : List V → Hp → VK → Prop := fun xs H Q => ∃ (a : Addr) (bs : List Bool), xs = [.ref a] ∧ H a = some (.lst (bs.map V.bl)) ∧ Q (.bl (bs.any id)) H
theorem vals_bls : ∀ {bs : List Bool} {us : List Value}, Vals (bs.map V.bl) us → BoolsAre us bs := by
  intro bs
  induction bs with
  | nil => intro us h; cases h; exact .nil
  | cons b bs ih =>
    intro us h
    cases h with
    | cons r t =>
      obtain rfl := (show _ = Value.bool b from r)
      exact .cons b (ih t)
theorem call_anyB {X : Cx} (hc : X.calm = true) : CallR X (.builtin "any") rAnyB := by
  intro pins s σ H xs us Q I rv h
  obtain ⟨a, bs, rfl, e, q⟩ := h
  obtain ⟨u, rfl, ru⟩ := vals1 rv
  obtain rfl : u = .ref a := ru
  obtain ⟨_, its, n, rI, hg⟩ := (show ObjOk X.prog X.w H s.heap a (.lst _) from I.hok a _ e)
  have hb := vals_bls rI
  have hl : s.heap.IsList a its.toArray := ⟨_, hg, rfl, _, rfl⟩
  have hlt : a < s.heap.objs.size := Heap.lt_size hg
  refine call_any_walk (wpAny_pyIter_list hl ?_)
  refine ⟨s.heap.objs.size, [s.heap.objs.size, a], [s.heap.objs.size], its.toArray.size, _, _, fun i => (bs[i]?).getD false, rfl, Walks.list (A := X.A.in1) (I.ok.hd hc) _ a (Nat.ne_of_lt hlt) its.toArray,
    ⟨⟨_, Heap.get?_push_size _ rfl, rfl, rfl⟩, hl.push _⟩, fun i v s' Q' E' hP hQ => ?_, fun h' tk hk => ?_⟩
  · obtain ⟨b, e, rfl⟩ := hb.get i v (by simpa using hP)
    simp only [e, Option.getD_some] at hQ
    exact wpAny_truthy_bool hQ
  · have e : ((List.range its.toArray.size).any fun i => (bs[i]?).getD false) = bs.any id := by
      rw [List.size_toArray, hb.length]; exact range_any bs
    rw [e]
    refine ⟨.bl _, H, I.kept fun b u z => ?_, rfl, q⟩
    exact kept_iter hk b u z
/-! ### x in a list, by the class's own == -/
/-- x in l, y == x told for each item: e -/
def rInOwn (K : PySem.W.Frag) (C : Addr) (g : Sp) (E : XK) (b : Bool → Bool) : R2 := fun x y H Q => ∃ (l a dx : Addr) (fs : List (Str × V)) (us : List Addr) (e : Addr → Bool), x = .ref a ∧ H a = some (.ins C dx fs) ∧ TyX K H (.ref a) (.ref C) ∧ y = .ref l ∧ H l = some (.lst (us.map V.ref)) ∧
  (∀ c, c ∈ us → (c = a ∧ e c = true) ∨ c ≠ a ∧ (∃ dc fc, H c = some (.ins C dc fc)) ∧ g [.ref c, .ref a] H (fun v H' => v = .bl (e c) ∧ H' = H) E) ∧ Q (.bl (b (us.any e))) H
section
variable {X : Cx} {CX : CXT} {n : Nat} {C f : Addr} {g : Sp} {E : XK}
end
end RR
set_option maxHeartbeats 4000000
namespace RR
open PySem PySem.Spec PyProof.Rows L2 LamX
/-! ### law_k05: what is reckoned of pairs -/
abbrev Pq := Int × Int
def addP (f p : Pq) : Pq := (lo (f.1 * p.2 + p.1 * f.2) (f.2 * p.2), lb (f.1 * p.2 + p.1 * f.2) (f.2 * p.2))
def sumP (ps : List Pq) : Pq := ps.foldl addP (0, 1)
def anyEnd (ps : List Pq) : Bool := ps.any fun p => decide (p.2 = 0)
def anyNeg (ps : List Pq) : Bool := ps.any fun p => decide (p.1 < 0)
def totP (ps : List Pq) : Deed := if anyEnd ps = true then (if anyNeg ps = true then none else some (1, 0)) else some (sumP ps)
def gB (f p : Pq) : Pq := if f.1 * p.2 < p.1 * f.2 then p else f
def lB (f p : Pq) : Pq := if p.1 * f.2 < f.1 * p.2 then p else f
def greatP : List Pq → Pq
  | [] => (0, 1)
  | p :: r => (p :: r).foldl gB p
def leastP : List Pq → Pq
  | [] => (1, 0)
  | p :: r => (p :: r).foldl lB p
def GP (p : Pq) : Prop := LowE p.1 p.2 ∧ Sm 100 p.1 ∧ Sm 100 p.2
structure SumAt (i : Nat) (f : Pq) : Prop where
  pos : 0 < f.2
  st : Sm (101 * i + 1) f.1
  sb : Sm (100 * i + 1) f.2
def endSum (ps : List Pq) : Pq := if anyEnd ps = true then (1, 0) else ps.foldl addP (0, 1)
/-! ### items: values with their pairs -/
abbrev IT := List (V × Pq)
def vsO (its : IT) : List V := its.map (·.1)
def prs (its : IT) : List Pq := its.map (·.2)
def IOk (C : Addr) (H : Hp) (its : IT) : Prop := ∀ p ∈ its, NumV C H p.1 p.2.1 p.2.2 ∧ GP p.2
def AllRef (its : IT) : Prop := ∀ p ∈ its, ∃ a, p.1 = .ref a
def SeqV (H : Hp) (l : Addr) (xs : List V) : Prop := H l = some (.lst xs) ∨ H l = some (.tup xs)
def NotNum (K : PySem.W.Frag) (C : Addr) (H : Hp) (v : V) : Prop := IsI K H v false ∧ NoR K C H v
def Asked (K : PySem.W.Frag) (C : Addr) (H : Hp) (xs : List V) (o : Sum IT Nat) : Prop := match o with
  | .inl its => xs = vsO its ∧ IOk C H its ∧ its.length ≤ 16
  | .inr k => ∃ its x rest, xs = vsO its ++ x :: rest ∧ IOk C H its ∧ its.length = k ∧ k ≤ 16 ∧ NotNum K C H x
/-! ### promises -/
def spCmp5 (C : Addr) (R : Int → Int → Bool) : Sp := fun vs H Q _ => ∃ x y t b u d, vs = [.ref x, y] ∧ RatAt C H x t b ∧ NumV C H y u d ∧ Sm 1900 t ∧ Sm 1900 b ∧ Sm 1900 u ∧ Sm 1900 d ∧ ∀ H', Same H H' → Q (.bl (R (t * d) (u * b))) H'
def spAdd5 (C : Addr) : Sp := fun vs H Q _ => ∃ x y t b u d, vs = [.ref x, .ref y] ∧ RatAt C H x t b ∧ RatAt C H y u d ∧ Sm 1900 t ∧ Sm 1900 b ∧ Sm 100 u ∧ Sm 100 d ∧
  ((0 < b ∧ 0 < d ∧ NewR C H Q (lo (t * d + u * b) (b * d)) (lb (t * d + u * b) (b * d))) ∨
   ((b = 0 ∨ d = 0) ∧ 0 ≤ t ∧ 0 ≤ u ∧ ∀ a H', Same H H' → RatAt C H' a (if b = 0 then t else u) (if b = 0 then b else d) → Q (.ref a) H'))
def spRatiosOf5 (K : PySem.W.Frag) (C B : Addr) : Sp := fun vs H Q E => ∃ l xs o, vs = [.ref l] ∧ SeqV H l xs ∧ Asked K C H xs o ∧ (match o with
  | .inl its => ∀ p its' H', Same H H' → H' p = some (.lst (vsO its')) → IOk C H' its' → AllRef its' → prs its' = prs its → Q (.ref p) H'
  | .inr k => BadAt B k H E)
def GotR (C : Addr) (H : Hp) (Q : VK) (p : Pq) : Prop := ∀ a H', Same H H' → RatAt C H' a p.1 p.2 → Q (.ref a) H'
def spTotal5 (K : PySem.W.Frag) (C B N : Addr) : Sp := fun vs H Q E => ∃ l xs o, vs = [.ref l] ∧ SeqV H l xs ∧ Asked K C H xs o ∧ (match o with
  | .inl its => (match totP (prs its) with
    | none => ∀ H', Same H H' → E (.ref N) none H'
    | some p => GotR C H Q p)
  | .inr k => BadAt B k H E)
def spFar5 (K : PySem.W.Frag) (C B : Addr) (f : List Pq → Pq) : Sp := fun vs H Q E => ∃ l xs o, vs = [.ref l] ∧ SeqV H l xs ∧ Asked K C H xs o ∧ (match o with
  | .inl its => GotR C H Q (f (prs its))
  | .inr k => BadAt B k H E)
end RR
set_option maxHeartbeats 4000000
namespace RR
open PySem PySem.Spec PyProof.Rows L2
/-! ### a class that a name of the def holds, called -/
def tMakeV (i : Nat) (C : Addr) (sp : Sp) (dvs : List V) (E : XK) (t : TA) : TE := fun σ H Q => σ[i]? = some (some (.ref C)) ∧ tMake C sp dvs E t σ H Q
/-! ### texts of ratios, sign by sign -/
abbrev S (l : List Nat) : Str := SX.S l
def sgL (t : Int) : List Nat := if t < 0 then [45] else []
def intL (t : Int) : List Nat := sgL t ++ TL.numL t.natAbs
def botL (b : Int) : List Nat := if b = 1 then [] else 47 :: TL.numL b.natAbs
def txtL (t b : Int) : List Nat := intL t ++ botL b
def figs : List Nat := [48, 49, 50, 51, 52, 53, 54, 55, 56, 57]
/-- the figures of a number, as they are written -/
def IsNum (d : List Nat) : Prop := d = [48] ∨ ∃ c r, d = c :: r ∧ 49 ≤ c ∧ NumText.AllDigits d
def NoDig (r : List Nat) : Prop := ∀ c, r.head? = some c → ¬ (48 ≤ c ∧ c ≤ 57)
def spFigs : Sp := fun vs H Q _ => ∃ a d r : List Nat, vs = [.str (S (a ++ (d ++ r))), .int a.length] ∧ IsNum d ∧ NoDig r ∧ (a ++ (d ++ r)).length ≤ 5000 ∧ Q (.int ((a.length : Int) + d.length)) H
def spLive : Sp := fun vs H Q _ => ∃ t b, vs = [.str (S (txtL t b))] ∧ 0 < b ∧ (txtL t b).length ≤ 5000 ∧ Q (.int ((txtL t b).length : Int)) H
end RR
set_option maxHeartbeats 4000000
namespace RR
/-! ### the beginnings of right texts, as an automaton (law_k06) -/
inductive Au where
  | s0 | en (k : Nat) | mi | ze | nu | st | nb
def isDig (c : Nat) : Bool := decide (48 ≤ c) && decide (c ≤ 57)
def endL : List Nat := [101, 110, 100, 108, 101, 115, 115]
def Au.step : Au → Nat → Option Au
  | .s0, c => if c = 101 then some (.en 1) else if c = 45 then some .mi else if c = 48 then some .ze else if isDig c then some .nu else none
  | .en k, c => if endL[k]? = some c then some (.en (k + 1)) else none
  | .mi, c => if c = 48 then none else if isDig c then some .nu else none
  | .ze, c => if c = 47 then some .st else none
  | .nu, c => if isDig c then some .nu else if c = 47 then some .st else none
  | .st, c => if c = 48 then none else if isDig c then some .nb else none
  | .nb, c => if isDig c then some .nb else none
/-- how many signs it lives -/
def Au.lives : Au → List Nat → Nat
  | _, [] => 0
  | a, c :: l => match a.step c with
    | none => 0
    | some b => b.lives l + 1
/-- the program's own reckoning -/
def dig (l : List Nat) : Nat := (l.takeWhile isDig).length
def figLen (l : List Nat) : Nat := if l.head? = some 48 then 1 else dig l
def shared : List Nat → List Nat → Nat
  | a :: l, b :: m => if a = b then shared l m + 1 else 0
  | _, _ => 0
def behind (l : List Nat) : Nat := if l.head? = some 48 then 0 else dig l
def tailLen (l : List Nat) : Nat := match l with
  | 47 :: r => behind r + 1
  | _ => 0
/-- what a text's length of the longest beginning is -/
def liveLen (l : List Nat) : Nat :=
  if l.head? = some 101 then shared l endL
  else if l.head? = some 45 then (if (l.drop 1).head? = some 48 ∨ dig (l.drop 1) = 0 then 1 else 1 + dig (l.drop 1) + tailLen (l.drop (1 + dig (l.drop 1))))
  else if l.head? = some 48 then 1 + tailLen (l.drop 1)
  else if dig l = 0 then 0 else dig l + tailLen (l.drop (dig l))
end RR
set_option maxHeartbeats 4000000
namespace RR
open PySem PySem.Spec PyProof.Rows L2
/-! ### the beginnings of right texts, by pieces (law_k06) -/
def front (l : List Nat) : List Nat := l.takeWhile fun c => c != 47
def after : List Nat → Option (List Nat)
  | [] => none
  | c :: l => if c = 47 then some l else after l
/-- figures without a zero ahead, but 0 itself -/
def NumP (d : List Nat) : Prop := d ≠ [] ∧ (∀ c ∈ d, isDig c = true) ∧ (d = [48] ∨ d.head? ≠ some 48)
def okBehind : Option (List Nat) → Prop
  | none => True
  | some r => r = [] ∨ (NumP r ∧ r ≠ [48])
def body (l : List Nat) : List Nat := if (front l).head? = some 45 then (front l).drop 1 else front l
/-- the law's own reading of a beginning -/
def Begins (l : List Nat) : Prop := endL.take l.length = l ∨ l = [45] ∨ (NumP (body l) ∧ front l ≠ [45, 48] ∧ okBehind (after l))
/-! ### the program's own reckoning, as it stands there -/
def sgnL (l : List Nat) : Nat := if l.head? = some 45 then 1 else 0
def stopAt (l : List Nat) : Nat := sgnL l + figLen (l.drop (sgnL l))
def spFigsG : Sp := fun vs H Q _ => ∃ (l : List Nat) (p : Nat), vs = [.str (S l), .int p] ∧ p ≤ l.length ∧ l.length ≤ 5000 ∧ Q (.int ((p + figLen (l.drop p) : Nat) : Int)) H
def spShared : Sp := fun vs H Q _ => ∃ l w : List Nat, vs = [.str (S l), .str (S w)] ∧ l.length ≤ 5000 ∧ w.length ≤ 5000 ∧ Q (.int (shared l w : Nat)) H
def spLiveG : Sp := fun vs H Q _ => ∃ l : List Nat, vs = [.str (S l)] ∧ l.length ≤ 5000 ∧ Q (.int (liveLen l : Nat)) H
end RR
set_option maxHeartbeats 4000000
namespace RR
open PySem PySem.Spec PyProof.Rows L2
/-! ### what a right text writes (law_k06) -/
def valL (d : List Nat) : Int := ((NumText.digitsVal d : Nat) : Int)
def topV (l : List Nat) : Int := if (front l).head? = some 45 then -valL (body l) else valL (body l)
def botV (l : List Nat) : Int := match after l with
  | none => 1
  | some r => valL r
def LastDig (l : List Nat) : Prop := ∃ i c, l = i ++ [c] ∧ isDig c = true
def spReadG (K : PySem.W.Frag) (C B : Addr) : Sp := fun vs H Q E => ∃ v, vs = [.ref C, v] ∧
  ((∃ t, TyX K H v t ∧ PySem.W.kitOne K t (.type "str") = some false ∧ BadAt B 0 H E) ∨
   ∃ l : List Nat, v = .str (S l) ∧ l.length ≤ 500 ∧
    ((l = endL ∧ ∀ a H', Same H H' → RatAt C H' a 1 0 → Q (.ref a) H') ∨
     (l ≠ endL ∧ ¬ (liveLen l = l.length ∧ LastDig l) ∧ BadAt B (liveLen l : Nat) H E) ∨
     (l ≠ endL ∧ liveLen l = l.length ∧ LastDig l ∧ NewR C H Q (lo (topV l) (botV l)) (lb (topV l) (botV l)))))
end RR
set_option maxHeartbeats 4000000
namespace RR
open PySem PySem.Spec PyProof.Rows L2 LamX
/-! ### right texts that numbers make -/
/-- a right text, its value, its signs -/
structure RightT (l : List Nat) (t b : Int) : Prop where
  live : liveLen l = l.length
  last : LastDig l
  top : topV l = t
  bot : botV l = b
  low : ∀ c ∈ l, c < 128
  len : l.length ≤ 100
/-! ### cuts -/
/-! ### what is heard, where a text may be wrong -/
/-! ### promises of law_k06 -/
def spToldX (C : Addr) : Sp := fun vs H Q _ => (∃ q xs, vs = [.ref q] ∧ H q = some (.tup xs) ∧ Q (.ref q) H) ∨
  (∃ q a t b, vs = [.ref q] ∧ H q = some (.lst [.ref a]) ∧ RatAt C H a t b ∧ ∀ p H', Same H H' → H' p = some (.tup [.int t, .int b]) → Q (.ref p) H')
def LineOk (l : List Nat) : Prop := l = endL ∨ ∃ t b, RightT l t b
def spDrawn : Sp := fun vs H Q _ => ∃ p c ns a g, vs = [.ref p] ∧ PenAt H p c ns a g ∧ a ≤ 98000 ∧
  ∀ l a' g' H', H' p = some (pen c a' g') → Keep p H H' → LineOk l → a ≤ a' → a' ≤ a + 8 → Q (.str (S l)) H'
def spSpoilt : Sp := fun vs H Q _ => ∃ p c ns a g l, vs = [.ref p, .str (S l)] ∧ PenAt H p c ns a g ∧ a ≤ 98000 ∧ l.length ≤ 400 ∧ (∀ c ∈ l, c < 128) ∧
  ∀ l' a' g' H', H' p = some (pen c a' g') → Keep p H H' → l'.length ≤ l.length + 1 → (∀ c ∈ l', c < 128) → a ≤ a' → a' ≤ a + 3 → Q (.str (S l')) H'
def spRightT (T : List (Addr × Str)) : Sp := fun vs H Q _ => ∃ l : List Nat, vs = [.str (S l)] ∧ l.length ≤ 500 ∧ (∀ c ∈ l, c < 128) ∧ Tabs T H ∧ ∀ H', ExtN H H' → Tabs T H' → Q (.bl true) H'
/-- no text -/
def NoStr (K : PySem.W.Frag) (H : Hp) (v : V) : Prop := ∃ t, TyX K H v t ∧ PySem.W.kitOne K t (.type "str") = some false
end RR
set_option maxHeartbeats 4000000
namespace RR
open PySem PySem.Spec PyProof.Rows L2 LamX
/-! ### what comes of a call: a ratio, no ratio, a wrong item -/
inductive Oc where
  | val (t b : Int)
  | none
  | at (k : Nat)
inductive EachO {α : Type} (R : V → α → Prop) : List V → List α → Prop
  | nil : EachO R [] []
  | cons {x : V} {o : α} {xs : List V} {os : List α} : R x o → EachO R xs os → EachO R (x :: xs) (o :: os)
section
variable {α : Type}
end
def HIs (C : Addr) (H : Hp) (x : V) (o : Oc) : Prop := match o with
  | .val t b => ∃ z a, x = .ref z ∧ H z = some (.lst [.ref a]) ∧ RatAt C H a t b
  | .none => ∃ z, x = .ref z ∧ H z = some (.tup [.str "none"])
  | .at k => ∃ z, x = .ref z ∧ H z = some (.tup [.str "ratio", .int (k : Int)])
def TIs (H : Hp) (x : V) (o : Oc) : Prop := match o with
  | .val t b => ∃ z, x = .ref z ∧ H z = some (.tup [.int t, .int b])
  | .none => ∃ z, x = .ref z ∧ H z = some (.tup [.str "none"])
  | .at k => ∃ z, x = .ref z ∧ H z = some (.tup [.str "ratio", .int (k : Int)])
def ocD (o : Oc) : PyData := match o with
  | .val t b => .tuple [.int t, .int b]
  | .none => .tuple [.str "none"]
  | .at k => .tuple [.str "ratio", .int (k : Int)]
/-- the wishes of a lambda -/
def wishE (N B : Addr) (o : Oc) (H0 : Hp) : XK := fun cls d H' => match o with
  | .none => cls = .ref N ∧ d = Option.none ∧ Same H0 H'
  | .at k => wAt B k H0 cls d H'
  | .val _ _ => False
def wishV (C : Addr) (o : Oc) (H0 : Hp) : VK := fun v H' => match o with
  | .val t b => Same H0 H' ∧ ∃ a, v = .ref a ∧ RatAt C H' a t b
  | _ => False
/-! ### the three calls -/
def ocP : Deed → Oc
  | some p => .val p.1 p.2
  | none => .none
def ocT : Sum IT Nat → Oc
  | .inl its => ocP (totP (prs its))
  | .inr k => .at k
def ocF (f : List Pq → Pq) : Sum IT Nat → Oc
  | .inl its => .val (f (prs its)).1 (f (prs its)).2
  | .inr k => .at k
def ocs (o : Sum IT Nat) : List Oc := [ocT o, ocF greatP o, ocF leastP o, ocT o, ocF greatP o, ocF leastP o]
/-- under way: the list L of what was heard so far -/
structure GSt (C : Addr) (T : List (Addr × Str)) (H0 H : Hp) (L : Addr) (os : List Oc) : Prop where
  ex : ExtN H0 H
  l0 : ∀ u, H0 L = some u → ∃ ps, u = .tbl ps
  ls : ∃ xs, H L = some (.lst xs) ∧ EachO (HIs C H) xs os
  tb : Tabs T H
/-! ### pairs of the law -/
def PrV (H : Hp) (v : V) (p : Pq) : Prop := ∃ a, v = .ref a ∧ Pr H a p.1 p.2
def ocV (p : Pq) : Oc := .val p.1 p.2
/-! ### promises of the law -/
def spAsk (K : PySem.W.Frag) (C : Addr) (T : List (Addr × Str)) : Sp := fun vs H Q _ => ∃ l xs o, vs = [.ref l] ∧ SeqV H l xs ∧ Asked K C H xs o ∧ Tabs T H ∧
  ∀ q H', ExtN H H' → Tabs T H' → (∃ ys, H' q = some (.lst ys) ∧ EachO (TIs H') ys (ocs o)) → Q (.ref q) H'
def PL (H : Hp) (l : Addr) (ps : List Pq) : Prop := ∃ ys, H l = some (.lst ys) ∧ EachO (PrV H) ys ps
def AllG (ps : List Pq) : Prop := ∀ p ∈ ps, GP p
def spLTotal : Sp := fun vs H Q _ => ∃ l ps, vs = [.ref l] ∧ PL H l ps ∧ AllG ps ∧ ps.length ≤ 16 ∧ ∀ q H', Same H H' → TIs H' (.ref q) (ocP (totP ps)) → Q (.ref q) H'
def spLess : Sp := fun vs H Q _ => ∃ x y p q, vs = [x, y] ∧ PrV H x p ∧ PrV H y q ∧ GP p ∧ GP q ∧ Q (.bl (decide (p.1 * q.2 < q.1 * p.2))) H
def farP (g : Bool) : List Pq → Pq := if g = true then greatP else leastP
def spLFar : Sp := fun vs H Q _ => ∃ l ps g, vs = [.ref l, .bl g] ∧ PL H l ps ∧ AllG ps ∧ ps.length ≤ 16 ∧ ∀ v H', Same H H' → PrV H' v (farP g ps) → Q v H'
def spItem (C : Addr) : Sp := fun vs H Q _ => ∃ p c ns a g, vs = [.ref p] ∧ PenAt H p c ns a g ∧ a ≤ 98000 ∧
  ∀ q x v pr a' g' H', H' p = some (pen c a' g') → Keep p H H' → H' q = some (.tup [x, v]) → PrV H' x pr → NumV C H' v pr.1 pr.2 → GP pr → v ≠ .ref p → a ≤ a' → a' ≤ a + 8 → Q (.ref q) H'
def spRight5 (K : PySem.W.Frag) (C : Addr) (T : List (Addr × Str)) : Sp := fun vs H Q _ => ∃ l m its, vs = [.ref l, .ref m] ∧ PL H l (prs its) ∧ H m = some (.lst (vsO its)) ∧ IOk C H its ∧ its.length ≤ 16 ∧ Tabs T H ∧
  ∀ H', ExtN H H' → Tabs T H' → Q (.bl true) H'
def spBent (K : PySem.W.Frag) (C : Addr) (T : List (Addr × Str)) : Sp := fun vs H Q _ => ∃ p c ns a g m its, vs = [.ref p, .ref m] ∧ PenAt H p c ns a g ∧ a ≤ 98000 ∧ H m = some (.lst (vsO its)) ∧ IOk C H its ∧ its.length ≤ 16 ∧ Tabs T H ∧
  ∀ a' g' H', PenAt H' p c ns a' g' → a' ≤ a + 8 → Tabs T H' → Q (.bl true) H'
end RR
set_option maxHeartbeats 4000000
namespace RR
open PySem PySem.Spec PyProof.Rows L2 LamX
/-! ### names -/
def resV : List V := [.str "open", .str "shut", .str "net"]
def isName (x : Str) : Bool := (decide ((1 : Int) ≤ (x.length : Int)) && decide ((x.length : Int) ≤ 8)) && ((!inV (.str x) resV) && (Txt.isascii x && (Txt.isalpha x && Txt.islower x)))
def NotName (K : PySem.W.Frag) (H : Hp) (v : V) : Prop := (∃ x, v = .str x ∧ x.length ≤ sizeLine ∧ isName x = false) ∨ NoStr K H v
def NameV (v : V) (x : Str) : Prop := v = .str x ∧ x.length ≤ sizeLine ∧ isName x = true
def spIsName (K : PySem.W.Frag) : Sp := fun vs H Q _ => ∃ v b, vs = [v] ∧ ((b = true ∧ ∃ x, NameV v x) ∨ (b = false ∧ NotName K H v)) ∧ Q (.bl b) H
def words11 : List Str := ["a", "b", "ab", "x", "abcdefgh", "nets", "opens", "shu", "zz", "z", "m"]
def wordsL : List Str := ["a", "b", "ab", "x", "abcdefgh", "nets", "opens", "shu", "zz", "z", "m", "qq"]
theorem le_line8 {n : Nat} (h : n ≤ 8) : n ≤ sizeLine := by rw [sizeLine_eq]; omega
/-! ### dicts of names -/
abbrev Told := Str → Option Pq
def setT (T : Told) (x : Str) (q : Pq) : Told := fun y => if y = x then some q else T y
structure Dct (R : V → Pq → Prop) (kvs : List (Key × V)) (ks : List Str) (T : Told) : Prop where
  keys : kvs.map (·.1) = ks.map Sum.inr
  nd : ks.Nodup
  dom : ∀ x, x ∈ ks ↔ (T x).isSome = true
  val : ∀ x q, T x = some q → ∃ v, valV kvs (Sum.inr x) = some v ∧ R v q
/-- names are known words, numbers are values -/
def GV (q : Pq) : Prop := 0 ≤ q.1 ∧ Low q.1 q.2 ∧ Sm 200 q.1 ∧ Sm 200 q.2
structure GT (T : Told) : Prop where
  nm : ∀ x q, T x = some q → x ∈ wordsL
  gv : ∀ x q, T x = some q → GV q
theorem lt_line {n : Nat} (h : n ≤ 1000) : n < sizeLine := by rw [sizeLine_eq]; omega
/-! ### Values -/
def RV (C : Addr) (H : Hp) (v : V) (q : Pq) : Prop := ∃ a, v = .ref a ∧ RatAt C H a q.1 q.2
def RestV (C : Addr) (H : Hp) (u : V) : Option Pq → Prop
  | none => u = .non
  | some q => RV C H u q
def GO : Option Pq → Prop
  | none => True
  | some q => GV q
structure ValAt (CV C : Addr) (H : Hp) (h d : Addr) (ks : List Str) (T : Told) (Rs : Option Pq) : Prop where
  ins : ∃ dx u, H h = some (.ins CV dx [("told", .ref d), ("untold", u)]) ∧ RestV C H u Rs
  dct : ∃ kvs, H d = some (.dK kvs) ∧ Dct (RV C H) kvs ks T
  gt : GT T
  go : GO Rs
/-- how ratios stay -/
def StayR (C : Addr) (H H' : Hp) : Prop := ∀ a dx t b, H a = some (.ins C dx (rfs t b)) → H' a = some (.ins C dx (rfs t b))
/-! ### the law's dicts -/
def DctAt (H : Hp) (t : Addr) (ks : List Str) (T : Told) : Prop := ∃ kvs, H t = some (.dK kvs) ∧ Dct (PrV H) kvs ks T
def RestP (H : Hp) (u : V) : Option Pq → Prop
  | none => u = .non
  | some q => PrV H u q
structure BoxAt (H : Hp) (b t : Addr) (ks : List Str) (T : Told) (Rs : Option Pq) : Prop where
  bx : ∃ u, H b = some (.dK [(.inr "told", .ref t), (.inr "rest", u)]) ∧ RestP H u Rs
  dct : DctAt H t ks T
  nt : t ≠ b
def StayP (H H' : Hp) : Prop := ∀ a t b, Pr H a t b → Pr H' a t b
def WAt (H : Hp) (l : Addr) (ws : List Str) : Prop := H l = some (.lst (ws.map V.str)) ∧ (∀ x ∈ ws, x ∈ wordsL) ∧ ws.length = 5
/-- between two deeds -/
structure SSt (CV C : Addr) (TB : List (Addr × Str)) (H : Hp) (p c : Addr) (ns : List Int) (h b l : Addr) (ws : List Str) (a g : Int) (d t : Addr) (ks ks' : List Str) (T : Told) (Rs : Option Pq) : Prop where
  W : PenAt H p c ns a g
  V : ValAt CV C H h d ks T Rs
  B : BoxAt H b t ks' T Rs
  L : WAt H l ws
  nb : b ≠ d
  nt : t ≠ d
  nl : l ≠ p
  tb : Tabs TB H
def StP (CV C : Addr) (TB : List (Addr × Str)) (H : Hp) (p c : Addr) (ns : List Int) (h b l : Addr) (ws : List Str) (a : Int) : Prop := ∃ g d t ks ks' T Rs, SSt CV C TB H p c ns h b l ws a g d t ks ks' T Rs
/-! ### promises of the class -/
def BadN (B : Addr) (x : V) (H : Hp) (E : XK) : Prop := ∀ d H', Same H H' → H' d = some (.xd [(("name" : Str), x)]) → E (.ref B) (some d) H'
/-- a number that is no value -/
def BadNum (K : PySem.W.Frag) (C : Addr) (H : Hp) (w : V) : Prop := (∃ t b, NumV C H w t b ∧ Sm 100 t ∧ Sm 100 b ∧ (b = 0 ∨ (0 < b ∧ t < 0))) ∨ NotNum K C H w
/-- a number that is a value -/
def GoodNum (C : Addr) (H : Hp) (w : V) (q : Pq) : Prop := NumV C H w q.1 q.2 ∧ GV q
def spValueOf (K : PySem.W.Frag) (C : Addr) : Sp := fun vs H Q _ => ∃ w, vs = [w] ∧ ((∃ q, GoodNum C H w q ∧ ∀ a H', Same H H' → RatAt C H' a q.1 q.2 → Q (.ref a) H') ∨ (BadNum K C H w ∧ ∀ H', Same H H' → Q .non H'))
def spVInit (CV C : Addr) : Sp := fun vs H Q _ => ∃ x dx f kvs fk T, vs = [.ref x, .ref f] ∧ H x = some (.ins CV dx []) ∧ H f = some (.dK kvs) ∧ Dct (fun v q => GoodNum C H v q) kvs fk T ∧ GT T ∧
  ∀ d H', Keep x H H' → H d = none → ValAt CV C H' x d (srtS fk) T none → Q .non H'
def spVNames (CV C : Addr) : Sp := fun vs H Q _ => ∃ h d ks T Rs, vs = [.ref h] ∧ ValAt CV C H h d ks T Rs ∧ ∀ p H', Same H H' → H' p = some (.tup ((srtS ks).map V.str)) → Q (.ref p) H'
def spVLen (CV C : Addr) : Sp := fun vs H Q _ => ∃ h d ks T Rs, vs = [.ref h] ∧ ValAt CV C H h d ks T Rs ∧ Q (.int (ks.length : Nat)) H
def spVHas (K : PySem.W.Frag) (CV C : Addr) : Sp := fun vs H Q _ => ∃ h d ks T Rs v, vs = [.ref h, v] ∧ ValAt CV C H h d ks T Rs ∧ ((∃ x, NameV v x ∧ Q (.bl (T x).isSome) H) ∨ (NotName K H v ∧ Q (.bl false) H))
def GotV (C N : Addr) (x : V) (H : Hp) (Q : VK) (E : XK) : Option Pq → Prop
  | some q => ∀ a, RatAt C H a q.1 q.2 → Q (.ref a) H
  | none => BadN N x H E
def spVGet (K : PySem.W.Frag) (CV C N : Addr) : Sp := fun vs H Q E => ∃ h d ks T Rs v, vs = [.ref h, v] ∧ ValAt CV C H h d ks T Rs ∧ ((∃ x, NameV v x ∧ GotV C N v H Q E ((T x).or Rs)) ∨ (NotName K H v ∧ BadN N v H E))
def spVRest (CV C : Addr) : Sp := fun vs H Q _ => ∃ h d ks T Rs, vs = [.ref h] ∧ ValAt CV C H h d ks T Rs ∧ ∀ u, RestV C H u Rs → Q u H
def spVSet (K : PySem.W.Frag) (CV C BN BV : Addr) : Sp := fun vs H Q E => ∃ h d ks T Rs v w, vs = [.ref h, v, w] ∧ ValAt CV C H h d ks T Rs ∧ ((NotName K H v ∧ BadN BN v H E) ∨
  ∃ x, NameV v x ∧ x ∈ wordsL ∧ ((∃ q, GoodNum C H w q ∧ ∀ ks' H', Keep d H H' → ValAt CV C H' h d ks' (setT T x q) Rs → Q .non H') ∨ (BadNum K C H w ∧ BadN BV v H E)))
def spVPut (K : PySem.W.Frag) (CV C BV : Addr) : Sp := fun vs H Q E => ∃ h d ks T Rs w, vs = [.ref h, w] ∧ ValAt CV C H h d ks T Rs ∧
  ((w = .non ∧ ∀ H', Keep h H H' → ValAt CV C H' h d ks T none → Q .non H') ∨ (∃ q, GoodNum C H w q ∧ ∀ H', Keep h H H' → ValAt CV C H' h d ks T (some q) → Q .non H') ∨ (w ≠ .non ∧ BadNum K C H w ∧ BadN BV (.str "rest") H E))
/-- what is told for some of the names -/
def partT (T : Told) (ks : List Str) : Told := fun y => if y ∈ ks then T y else none
theorem hu2_of {A : Around} {k : Nat} (h : Room k A) : A.units + 2 < cLine := by have := h.units; omega
end RR
set_option maxHeartbeats 4000000
namespace RR
open PySem PySem.Spec PyProof.Rows L2 LamX
/-! ### how what is handed in stays -/
/-! ### numbers, names drawn -/
def spNumber (C : Addr) : Sp := fun vs H Q _ => ∃ p c ns a g, vs = [.ref p] ∧ PenAt H p c ns a g ∧ a ≤ 98000 ∧
  ∀ r pq w q a' g' H', H' p = some (pen c a' g') → Keep p H H' → H' r = some (.tup [.ref pq, w]) → Pr H' pq q.1 q.2 → GoodNum C H' w q → w ≠ .ref p → a ≤ a' → a' ≤ a + 7 → Q (.ref r) H'
def spOddNum (K : PySem.W.Frag) (C : Addr) : Sp := fun vs H Q _ => ∃ p c ns a g, vs = [.ref p] ∧ PenAt H p c ns a g ∧ a ≤ 98000 ∧
  ∀ v a' g' H', H' p = some (pen c a' g') → Keep p H H' → BadNum K C H' v → v ≠ .ref p → a ≤ a' → a' ≤ a + 1 → Q v H'
def FlatOr (v : V) : Prop := flatB v = true ∨ ∃ c, v = .ref c
def spOddName (K : PySem.W.Frag) : Sp := fun vs H Q _ => ∃ p c ns a g, vs = [.ref p] ∧ PenAt H p c ns a g ∧ a ≤ 98000 ∧
  ∀ v a' g' H', H' p = some (pen c a' g') → Keep p H H' → NotName K H' v → FlatOr v → v ≠ .ref p → a ≤ a' → a' ≤ a + 1 → Q v H'
def spWords : Sp := fun vs H Q _ => ∃ p c ns a g, vs = [.ref p, .int 5] ∧ PenAt H p c ns a g ∧ a ≤ 98000 ∧
  ∀ l ws a' g' H', H' p = some (pen c a' g') → Keep p H H' → WAt H' l ws → l ≠ p → a ≤ a' → a' ≤ a + 5 → Q (.ref l) H'
/-! ### what 'heard' makes of a lambda -/
def TTn (BN BV NV : Addr) : (XK → Hp → VK → Prop) → Hp → VK → Prop := fun tl H Q => ∀ H0, Same H H0 → ∃ (E' : XK) (Q' : VK), tl E' H0 Q' ∧
  (∀ v H1, Q' v H1 → ∀ q H2, Same H1 H2 → H2 q = some (.lst [v]) → Q (.ref q) H2) ∧
  (∀ cls d H1, E' cls d H1 → ∃ dd x, d = some dd ∧ H1 dd = some (.xd [(("name" : Str), x)]) ∧
    ((cls = .ref BN ∧ ∀ q H2, Same H1 H2 → H2 q = some (.tup [.str "name", x]) → Q (.ref q) H2) ∨ (cls = .ref BV ∧ ∀ q H2, Same H1 H2 → H2 q = some (.tup [.str "value", x]) → Q (.ref q) H2) ∨ (cls = .ref NV ∧ ∀ q H2, Same H1 H2 → H2 q = some (.tup [.str "none", x]) → Q (.ref q) H2)))
/-- the wish that B comes with the name x -/
def wName (B : Addr) (x : V) (H0 : Hp) : XK := fun cls d H' => cls = .ref B ∧ ∃ dd, d = some dd ∧ Same H0 H' ∧ H' dd = some (.xd [(("name" : Str), x)])
/-! ### the law's deeds -/
def spKeeps (CV C : Addr) (TB : List (Addr × Str)) : Sp := fun vs H Q _ => ∃ h d t r ks ks' T Rs, vs = [.ref h, .ref t, r] ∧ ValAt CV C H h d ks T Rs ∧ DctAt H t ks' T ∧ RestP H r Rs ∧ Tabs TB H ∧ ∀ H', ExtN H H' → Tabs TB H' → Q (.bl true) H'
def spDeed (CV C : Addr) (TB : List (Addr × Str)) (k : Int) (f : Addr → Addr → Addr → Addr → List V) : Sp := fun vs H Q _ => ∃ p c ns h b l ws a, vs = f p h b l ∧ StP CV C TB H p c ns h b l ws a ∧ a ≤ 90000 ∧ ∀ a' H', StP CV C TB H' p c ns h b l ws a' → a ≤ a' → a' ≤ a + k → Q (.bl true) H'
def spToldR (CV C : Addr) (TB : List (Addr × Str)) : Sp := spDeed CV C TB 12 fun p h b l => [.ref p, .ref h, .ref b, .ref l]
def spReadR (CV C : Addr) (TB : List (Addr × Str)) : Sp := spDeed CV C TB 2 fun p h b l => [.ref p, .ref h, .ref b, .ref l]
def spRestR (CV C : Addr) (TB : List (Addr × Str)) : Sp := fun vs H Q _ => ∃ p c ns h b l ws a, vs = [.ref p, .ref h, .ref b] ∧ StP CV C TB H p c ns h b l ws a ∧ a ≤ 90000 ∧ ∀ a' H', StP CV C TB H' p c ns h b l ws a' → a ≤ a' → a' ≤ a + 12 → Q (.bl true) H'
def rLenQ (K : PySem.W.Frag) : List V → Hp → VK → Prop := fun xs H Q => ∃ p ys, xs = [.ref p] ∧ (SqL K H p ys ∨ SqT K H p ys) ∧ Q (.int ys.length) H
theorem dp_strsT {K : PySem.W.Frag} {H : Hp} : ∀ xs : List Str, DpAll K H (xs.map V.str) (xs.map PyData.str)
  | [] => .nil
  | x :: r => .cons (.str x) (dp_strsT r)
end RR
set_option maxHeartbeats 4000000
namespace RR
open PySem PySem.Spec PyProof.Rows L2 LamX
abbrev kT : Key := Sum.inr ("told" : Str)
abbrev kR : Key := Sum.inr ("rest" : Str)
abbrev boxL (x y : V) : List (Key × V) := [(kT, x), (kR, y)]
/-- the first numbers, drawn so far -/
def FirstAt (C : Addr) (H : Hp) (f : Addr) (fk : List Str) (T : Told) : Prop := ∃ kvs, H f = some (.dK kvs) ∧ Dct (GoodNum C H) kvs fk T
structure FSt (C : Addr) (TB : List (Addr × Str)) (H : Hp) (p c : Addr) (ns : List Int) (b l f t : Addr) (ws : List Str) (a g : Int) (fk ks' : List Str) (T : Told) : Prop where
  W : PenAt H p c ns a g
  B : BoxAt H b t ks' T none
  Fa : FirstAt C H f fk T
  gt : GT T
  L : WAt H l ws
  nbf : b ≠ f
  ntf : t ≠ f
  nl : l ≠ p
  tb : Tabs TB H
section
variable {C : Addr} {TB : List (Addr × Str)} {H H' : Hp} {p c : Addr} {ns : List Int} {b l f t : Addr} {ws : List Str} {a g a' g' : Int} {fk ks' : List Str} {T : Told}
end
end RR
set_option maxHeartbeats 4000000
namespace RR
open PySem PySem.Spec PyProof.Rows L2 LamX
/-! ### == of dicts whose values bring their own == -/
section
variable {X : Cx} {pins : List (Addr × Obj)} {σ : L2.St} {H : Hp} {a b : Addr} {oa ob : Obj} {ka kb : List (Key × V)}
end
/-- two dicts of ratios are equal: the same names, at each the same ratio -/
def eqTold (ks : List Str) (n : Nat) (T T' : Told) : Bool := decide (ks.length = n) && ks.all fun x => decide (T' x = T x)
section
variable {X : Cx} {C f : Addr} {n : Nat}
/-- x == y of two such dicts -/
def rEqDO (C : Addr) : R2 := fun x y H Q => ∃ a b ka kb ks ks' T T', x = .ref a ∧ y = .ref b ∧ a ≠ b ∧ H a = some (.dK ka) ∧ H b = some (.dK kb) ∧ Dct (RV C H) ka ks T ∧ Dct (RV C H) kb ks' T' ∧ Q (.bl (eqTold ks ks'.length T T')) H
end
end RR
set_option maxHeartbeats 4000000
namespace RR
open PySem PySem.Spec PyProof.Rows L2 LamX
/-! ### repr of a dict of names whose values are data or ratios -/
def ItemV (C : Addr) (H : Hp) (v : V) (t : Str) : Prop :=
  (v = .non ∧ t = "None") ∨ (∃ b, v = .bl b ∧ t = (if b then "True" else "False")) ∨ (∃ n : Int, v = .int n ∧ Sm 1900 n ∧ t = Str.ofString (toString n)) ∨ (∃ x, v = .str x ∧ (reprText x).length ≤ 100 ∧ t = reprText x) ∨
  (∃ e, v = .ref e ∧ H e = some (.lst [.int 1]) ∧ t = listText ["1"]) ∨ (∃ e, v = .ref e ∧ H e = some (.tup [.int 1, .int 2]) ∧ t = tupleText ["1", "2"]) ∨ (∃ e, v = .ref e ∧ H e = some (.dK []) ∧ t = dictText []) ∨
  (∃ c q b, v = .ref c ∧ RatAt C H c q b ∧ Sm 1900 q ∧ Sm 1900 b ∧ t = reprR q b)
/-- the piece that an entry gives -/
def PieceV (C : Addr) (H : Hp) (kv : Key × V) (p : Str) : Prop := ∃ x t, kv.1 = Sum.inr x ∧ (reprText x).length ≤ 100 ∧ ItemV C H kv.2 t ∧ p = reprText x ++ ": " ++ t
section
variable {X : Cx} {C f : Addr} {n : Nat}
/-- repr(x), x such a dict -/
def rReprD (C : Addr) : List V → Hp → VK → Prop := fun vs H Q => ∃ a kvs ps, vs = [.ref a] ∧ H a = some (.dK kvs) ∧ ps.length = kvs.length ∧ (∀ (i : Nat) kv, kvs[i]? = some kv → ∃ p, ps[i]? = some p ∧ PieceV C H kv p) ∧ (dictText ps).length ≤ sizeLine ∧ Q (.str (dictText ps)) H
end
end RR
set_option maxHeartbeats 4000000
namespace RR
open PySem PySem.Spec PyProof.Rows L2 LamX
/-- f'..' of two parts or more, by name -/
def tJoin (ts : List TE) : TE := fun σ H Q => tJs ts Str.empty σ H fun out H1 => Q (.str out) H1
/-! ### Values of what may be wrong -/
def badQ : Pq := (-1, 1)
def GivR (K : PySem.W.Frag) (C : Addr) (H : Hp) (v : V) (q : Pq) : Prop := GoodNum C H v q ∨ (q = badQ ∧ BadNum K C H v)
def oddN (x : Str) : Bool := !isName x
def badAt (T : Told) (x : Str) : Bool := decide (T x = some badQ)
def KeyOk (x : Str) : Prop := x ∈ wordsL ∨ (isName x = false ∧ x.length ≤ 16)
/-- how the making of values ends -/
def Takes (CV C BN BV : Addr) (H : Hp) (x : Addr) (fk : List Str) (T : Told) (Q : VK) (E : XK) : Prop :=
  match (srtS fk).find? oddN with
  | some nm => BadN BN (.str nm) H E
  | none => match (srtS fk).find? (badAt T) with
    | some nm => BadN BV (.str nm) H E
    | none => ∀ d H', Keep x H H' → H d = none → ValAt CV C H' x d (srtS fk) T none → Q .non H'
def spVInitE (K : PySem.W.Frag) (CV C BN BV : Addr) : Sp := fun vs H Q E => ∃ x dx n kvs fk T, vs = [.ref x, n] ∧ H x = some (.ins CV dx []) ∧ ((∃ f, n = .ref f ∧ H f = some (.dK kvs) ∧ Dct (GivR K C H) kvs fk T) ∨ (n = .non ∧ kvs = [] ∧ fk = [] ∧ T = fun _ => none)) ∧
  (∀ y ∈ fk, KeyOk y) ∧ fk.length ≤ 12 ∧ Takes CV C BN BV H x fk T Q E
theorem find_head {p : Str → Bool} : ∀ (xs : List Str), xs.find? p = (xs.filter p).head?
  | [] => rfl
  | x :: r => by
    cases e : p x with
    | true => rw [List.find?_cons_of_pos e, List.filter_cons_of_pos e]; rfl
    | false => rw [List.find?_cons_of_neg (by rw [e]; decide), List.filter_cons_of_neg (by rw [e]; decide)]; exact find_head r
/-- == of values without a rest -/
def spVEq (K : PySem.W.Frag) (CV C : Addr) : Sp := fun vs H Q _ => ∃ h d ks T y, vs = [.ref h, y] ∧ ValAt CV C H h d ks T none ∧
  ((∃ h' d' ks' T', y = .ref h' ∧ d' ≠ d ∧ ValAt CV C H h' d' ks' T' none ∧ Q (.bl (eqTold ks ks'.length T T')) H) ∨ (∃ t, TyX K H y t ∧ PySem.W.kitOne K t (.ref CV) = some false ∧ Q (.bl false) H))
def spVStr (CV C : Addr) : Sp := fun vs H Q _ => ∃ h d ks T, vs = [.ref h] ∧ ValAt CV C H h d ks T none ∧ ∀ z H', Same H H' → z.length ≤ sizeLine → Q (.str z) H'
theorem join_len (sep : Str) : ∀ l : List Str, (Txt.join sep l).length ≤ (l.map (·.length)).sum + l.length * sep.length
  | [] => Nat.zero_le _
  | x :: r => by
    unfold Txt.join
    rw [StrLaws.glued_eq_join, len_join_cons, List.length_cons, Nat.succ_mul]
    omega
end RR
set_option maxHeartbeats 4000000
namespace RR
open PySem PySem.Spec PyProof.Rows L2 LamX NdefX
/-! ### lambdas with a parameter, as values -/
/-- the object at f is the lambda F whose body is e -/
def LamO (f : Addr) (F : NF) (e : Expr) : HO := .ext fun h => ∃ pm ctv : Value, h.get? f = some (PySem.W.kla_obj "<lambda>" F.qual F.params e F.scope F.cl pm F.c ctv)
/-- the record of a lambda that the running def makes -/
abbrev lamF (X : Cx) (params : Arguments) (scope : Scope) (c' : Addr) : NF := ⟨"<lambda>", lamQ X, params, [], scope, cloFrom X.env.cells scope.names [], c'⟩
section
variable {X : Cx} {pins : List (Addr × Obj)} {σ : L2.St} {H : Hp} {s : Shared}
end
def tLamV (X : Cx) (T : List (Addr × Str)) (params : Arguments) (body : Expr) (scope : Scope) : TE := fun σ H Q => Tabs T H ∧ ∀ f c' H1, ExtN H H1 → Tabs T H1 → H f = none → H1 f = some (LamO f (lamF X params scope c') body) → H1 c' = some (CodeO c' (lamQ X)) → Q (.ref f) H1
/-! ### what a lambda promises -/
abbrev Sl := V → Hp → VK → XK → Prop
/-- the thing at f, called with one argument -/
def CallsF (P : Program) (w : World) (K : PySem.W.Frag) (mg : Str → Option Value) (base : Heap) (k : Nat) (f : Addr) (sp : Sl) : Prop :=
  ∀ (A : Around) (outer : List Env) (s : Shared) (H : Hp) (u : Value) (v : V) (Q : VK) (E : XK), Room k A → Env0 P w K mg base A outer s H → L2.RelV v u → sp v H Q E → codeAny (model P w) A (.call (.ref f) ⟨[u], []⟩) (CR (L2.CX P w) outer P w H s Q E) s
def FnT (H : Hp) (f : Addr) : Prop := ∃ F e, H f = some (LamO f F e)
/-- f(e), f a name -/
def tCallF (P : Program) (w : World) (K : PySem.W.Frag) (mg : Str → Option Value) (base : Heap) (k i : Nat) (E : XK) (t : TA) : TE := fun σ H Q => ∃ f, σ[i]? = some (some (.ref f)) ∧ FnT H f ∧ t σ H fun vs H1 => ∃ v sp, vs = [v] ∧ FnT H1 f ∧ CallsF P w K mg base k f sp ∧ sp v H1 Q E
end RR
set_option maxHeartbeats 4000000
namespace RR
open PySem PySem.Spec PyProof.Rows L2 LamX NdefX
/-! ### a cell that a lambda captured is tracked while another def holds the lambda -/
def ObjX (a : Addr) (o : Obj) : HO := .ext fun h => h.get? a = some o
section
variable {P : Program} {w : World} {K : PySem.W.Frag} {mg : Str → Option Value} {base : Heap} {A : Around} {outer : List Env} {s : Shared} {H H' : Hp} {c : Addr} {o : Obj} {h h' : Heap} {fs : List Addr}
end
/-- o.m(lambda a: .. x ..), x a cell of the running def -/
def tMethC (X : Cx) (T : List (Addr × Str)) (params : Arguments) (body : Expr) (scope : Scope) (C : Addr) (m x : Str) (j : Nat) (sp : Sp) (ta : TE) : TE := fun σ H Q => ta σ H fun xv H1 => ∃ a dx fs, xv = .ref a ∧ H1 a = some (.ins C dx fs) ∧ fs.lookup m = none ∧ Tabs T H1 ∧ ∃ z, σ[j]? = some (some z) ∧
  ∀ f c' H2, ExtN H1 H2 → Tabs T H2 → H1 f = none → H2 c' = some (CodeO c' (lamQ X)) → ∀ (F : NF) cc o u, F = ⟨"<lambda>", lamQ X, params, [], scope, [(x, cc)], c'⟩ → H2 f = some (LamO f F body) → H2 cc = none → o.data = .cell (some u) → L2.RelV z u →
    sp [.ref a, .ref f] (upd H2 cc (ObjX cc o)) (fun v H' => H' cc = some (ObjX cc o) ∧ Q v (delH H' cc)) E0
end RR
set_option maxHeartbeats 4000000
/-! comprehensions that let an exception out -/
namespace L2
open PySem PySem.Spec PyProof.Rows
/-- a comprehension's block, with a wish about exceptions -/
abbrev Cx.blkX (X : Cx) (s : Shared) (H : Hp) (scope : Scope) (cenv : Env) (fp : List Addr) (Ψ : Value → Shared → Prop) : Cx := (X.blk s H scope cenv fp).wish Ψ
section
variable {X : Cx} {pins pb : List (Addr × Obj)} {σ σ8 : St} {H3 H10 : Hp} {s3 s10 s' : Shared} {scope : Scope} {ce : Env} {fp : List Addr} {Ψ : Value → Shared → Prop} {u : Value} {E : XK} {W : WX}
end
/-! the rule: {k: v for x in ..}, v may raise; no tests -/
section
variable {X : Cx} {Ex : XK} {Wx : WX}
abbrev bEnv (X : Cx) (scope : Scope) (cl : List (Str × Addr)) (C : Addr) : Env := compEnvC scope cl C X.env
end
end L2
set_option maxHeartbeats 4000000
namespace RR
open PySem PySem.Spec PyProof.Rows L2 LamX
/-! ### a def that makes lambdas, and lets exceptions out -/
/-! ### values made of values -/
def mapT (φ : Pq → Pq) (T : Told) : Told := fun x => (T x).map φ
def Held (T : Told) (Rs : Option Pq) (q : Pq) : Prop := (∃ x, T x = some q) ∨ Rs = some q
/-- what the thing at f makes of each number -/
def Makes (C N : Addr) (H : Hp) (sl : Sl) (D : Pq → Prop) (φ : Pq → Pq) (ok : Pq → Bool) : Prop := ∀ q a H1 (Q1 : VK) (E1 : XK), D q → GV q → Same H H1 → RatAt C H1 a q.1 q.2 →
  (ok q = true → ∀ v H2, Same H1 H2 → GoodNum C H2 v (φ q) → Q1 v H2) → (ok q = false → ∀ H2, Same H1 H2 → E1 (.ref N) none H2) → sl (.ref a) H1 Q1 E1
def spChanged (P : Program) (w : World) (K : PySem.W.Frag) (mg : Str → Option Value) (base : Heap) (CV C N : Addr) : Sp := fun vs H Q E => ∃ h d ks T Rs f sl φ ok, vs = [.ref h, .ref f] ∧ ValAt CV C H h d ks T Rs ∧ FnT H f ∧ CallsF P w K mg base 8 f sl ∧ Makes C N H sl (Held T Rs) φ ok ∧
  ((∀ q, Held T Rs q → ok q = true) → ∀ h' d' ks' H', Same H H' → H d' = none → ValAt CV C H' h' d' ks' (mapT φ T) (Rs.map φ) → Q (.ref h') H') ∧ ((∃ q, Held T Rs q ∧ ok q = false) → ∀ H', Same H H' → E (.ref N) none H')
/-- 1 less a value -/
def lessQ (q : Pq) : Pq := (lo (q.2 - q.1) q.2, lb (q.2 - q.1) q.2)
def aboveT (T : Told) (x : Str) : Bool := match T x with
  | some q => decide (q.1 > q.2)
  | none => false
def aboveR : Option Pq → Bool
  | some q => decide (q.1 > q.2)
  | none => false
/-- the address is none of a dict that was there -/
def NewD (H : Hp) (d : Addr) : Prop := ∀ b kvs, H b = some (.dK kvs) → d ≠ b
def spTurned (CV C BV : Addr) (TB : List (Addr × Str)) : Sp := fun vs H Q E => ∃ h d ks T Rs, vs = [.ref h] ∧ ValAt CV C H h d ks T Rs ∧ Tabs TB H ∧ (match (srtS ks).find? (aboveT T) with
  | some nm => BadN BV (.str nm) H E
  | none => if aboveR Rs = true then BadN BV (.str "rest") H E else ∀ h' d' ks' H', ExtN H H' → Tabs TB H' → NewD H d' → ValAt CV C H' h' d' ks' (mapT lessQ T) (Rs.map lessQ) → Q (.ref h') H')
/-- 1 over a value -/
def flipQ (q : Pq) : Pq := (q.2, q.1)
def spOverV (CV C N : Addr) (TB : List (Addr × Str)) : Sp := fun vs H Q E => ∃ h d ks T Rs, vs = [.ref h] ∧ ValAt CV C H h d ks T Rs ∧ Tabs TB H ∧
  ((∀ q, Held T Rs q → q.1 ≠ 0) → ∀ h' d' ks' H', ExtN H H' → Tabs TB H' → NewD H d' → ValAt CV C H' h' d' ks' (mapT flipQ T) (Rs.map flipQ) → Q (.ref h') H') ∧ ((∃ q, Held T Rs q ∧ q.1 = 0) → ∀ H', ExtN H H' → Tabs TB H' → E (.ref N) none H')
def timesQ (u : Pq) (q : Pq) : Pq := (lo (q.1 * u.1) (q.2 * u.2), lb (q.1 * u.1) (q.2 * u.2))
def Sm1 (q : Pq) : Prop := Sm 100 q.1 ∧ Sm 100 q.2
def spTimes (K : PySem.W.Frag) (CV C BV : Addr) (TB : List (Addr × Str)) : Sp := fun vs H Q E => ∃ h d ks T Rs v, vs = [.ref h, v] ∧ ValAt CV C H h d ks T Rs ∧ Tabs TB H ∧
  ((∃ u, GoodNum C H v u ∧ Sm1 u ∧ (∀ q, Held T Rs q → Sm1 q) ∧ ∀ h' d' ks' H', ExtN H H' → Tabs TB H' → NewD H d' → ValAt CV C H' h' d' ks' (mapT (timesQ u) T) (Rs.map (timesQ u)) → Q (.ref h') H') ∨ (BadNum K C H v ∧ BadN BV (.str "times") H E))
/-- the bodies of the lambdas -/
def slLess (C : Addr) : Sl := fun v H Q _ => ∃ a q, v = .ref a ∧ RatAt C H a q.1 q.2 ∧ GV q ∧ ∀ a' H', Same H H' → RatAt C H' a' (lessQ q).1 (lessQ q).2 → Q (.ref a') H'
def slOver (C N : Addr) : Sl := fun v H Q E => ∃ a q, v = .ref a ∧ RatAt C H a q.1 q.2 ∧ GV q ∧ (q.1 ≠ 0 → ∀ a' H', Same H H' → RatAt C H' a' q.2 q.1 → Q (.ref a') H') ∧ (q.1 = 0 → ∀ H', Same H H' → E (.ref N) none H')
def slTimes (C : Addr) : V → Sl := fun z v H Q _ => ∃ a q fa u, v = .ref a ∧ z = .ref fa ∧ RatAt C H a q.1 q.2 ∧ RatAt C H fa u.1 u.2 ∧ GV q ∧ GV u ∧ ∀ a' H', Same H H' → RatAt C H' a' (timesQ u q).1 (timesQ u q).2 → Q (.ref a') H'
/-- values of two numbers -/
def spTwo (K : PySem.W.Frag) (CV C BN BV : Addr) : Sp := fun vs H Q E => ∃ l xs gd bd, vs = [.ref l, gd, bd] ∧ (H l = some (.lst xs) ∨ H l = some (.tup xs)) ∧
  ((∃ pre x post, xs = pre ++ x :: post ∧ (∀ y ∈ pre, ∃ n, NameV y n) ∧ NotName K H x ∧ BadN BN x H E) ∨
   (∃ ns : List Str, xs = ns.map V.str ∧ (∀ n ∈ ns, n ∈ wordsL) ∧ ((BadNum K C H gd ∧ BadN BV (.str "good") H E) ∨ ∃ g, GoodNum C H gd g ∧ ((BadNum K C H bd ∧ BadN BV (.str "bad") H E) ∨ ∃ b, GoodNum C H bd b ∧
     ∀ h' d' ks' H', Same H H' → H d' = none → ValAt CV C H' h' d' ks' (fun x => if x ∈ ns then some g else none) (some b) → Q (.ref h') H'))))
end RR
set_option maxHeartbeats 4000000
namespace RR
open PySem PySem.Spec PyProof.Rows L2 LamX
/-! ### the dicts that are given -/
def oddL : List Str := ["", "A", "open", "net", "shut", "abcdefghi", "a1", "a b", "ab ", "-"]
def HasI (C : Addr) (H : Hp) (v : V) : Prop := ∃ t, ItemV C H v t ∧ t.length ≤ 5000
/-- apart from all that was there and is no ratio -/
def Aside (C : Addr) (H : Hp) (v : V) : Prop := ∀ b o, H b = some o → (∀ dx t d, o ≠ .ins C dx (rfs t d)) → v ≠ .ref b
/-- a heap in which all but L is as it was -/
def KeepL (L : List Addr) (H H' : Hp) : Prop := ∀ b o, H b = some o → b ∉ L → H' b = some o
def Off (L : List Addr) (v : V) : Prop := ∀ a ∈ L, v ≠ .ref a
/-- a value that is given, apart from L -/
def GivO (K : PySem.W.Frag) (C : Addr) (L : List Addr) (H : Hp) (v : V) (q : Pq) : Prop := GivR K C H v q ∧ HasI C H v ∧ Off L v
/-- a pair that is told, apart from L -/
def PrO (L : List Addr) (H : Hp) (v : V) (q : Pq) : Prop := PrV H v q ∧ Off L v ∧ Sm 100 q.1 ∧ Sm 100 q.2
def RepsD (C : Addr) (H : Hp) (kvs : List (Key × V)) (ps : List Str) : Prop := ps.length = kvs.length ∧ (∀ (i : Nat) kv, kvs[i]? = some kv → ∃ p, ps[i]? = some p ∧ PieceV C H kv p) ∧ (dictText ps).length ≤ sizeLine
/-- what is due -/
def DueV (H : Hp) (due : V) (fk : List Str) (T T0 : Told) : Prop :=
  match (srtS fk).find? oddN with
  | some nm => ∃ r, due = .ref r ∧ H r = some (.tup [.str "name", .str nm])
  | none => match (srtS fk).find? (badAt T) with
    | some nm => ∃ r, due = .ref r ∧ H r = some (.tup [.str "value", .str nm])
    | none => due = .non ∧ T = T0
structure GivAt (K : PySem.W.Frag) (C : Addr) (p : Addr) (H : Hp) (f t : Addr) (kvs : List (Key × V)) (fk : List Str) (T : Told) (tk : List Str) (T0 : Told) : Prop where
  hf : H f = some (.dK kvs)
  D : Dct (GivO K C [p, f, t] H) kvs fk T
  kok : ∀ y ∈ fk, y ∈ wordsL ++ oddL
  kl : fk.length ≤ 12
  ht : ∃ kvt, H t = some (.dK kvt) ∧ Dct (PrO [p, f, t] H) kvt tk T0
  ft : f ≠ t
  fp : f ≠ p
  tp : t ≠ p
/-- what is promised of `given` -/
def spGiven (K : PySem.W.Frag) (C : Addr) : Sp := fun vs H Q _ => ∃ p c ns a g, vs = [.ref p] ∧ PenAt H p c ns a g ∧ a ≤ 90000 ∧
  ∀ r f t kvs fk T tk T0 due a' g' H', H' p = some (pen c a' g') → Keep p H H' → H' r = some (.tup [.ref f, .ref t, due]) → GivAt K C p H' f t kvs fk T tk T0 → DueV H' due fk T T0 → a ≤ a' → a' ≤ a + 100 → Q (.ref r) H'
def spNumberL (C : Addr) : Sp := fun vs H Q _ => ∃ p c ns a g, vs = [.ref p] ∧ PenAt H p c ns a g ∧ a ≤ 98000 ∧
  ∀ r pq w q a' g' H', H' p = some (pen c a' g') → Keep p H H' → H' r = some (.tup [.ref pq, w]) → Pr H' pq q.1 q.2 → GoodNum C H' w q → (Sm 100 q.1 ∧ Sm 100 q.2) → w ≠ .ref p → a ≤ a' → a' ≤ a + 7 → Q (.ref r) H'
def spOddNumI (K : PySem.W.Frag) (C : Addr) : Sp := fun vs H Q _ => ∃ p c ns a g, vs = [.ref p] ∧ PenAt H p c ns a g ∧ a ≤ 98000 ∧
  ∀ v a' g' H', H' p = some (pen c a' g') → Keep p H H' → BadNum K C H' v → HasI C H' v → Aside C H v → a ≤ a' → a' ≤ a + 1 → Q v H'
def spWordsN : Sp := fun vs H Q _ => ∃ p c ns a g n, vs = [.ref p, .int n] ∧ PenAt H p c ns a g ∧ a ≤ 98000 ∧ 0 ≤ n ∧ n ≤ 6 ∧
  ∀ l (ws : List Str) a' g' H', H' p = some (pen c a' g') → Keep p H H' → H l = none → H' l = some (.lst (ws.map V.str)) → (∀ x ∈ ws, x ∈ words11) → ws.Nodup → (ws.length : Int) = n → a ≤ a' → a' ≤ a + n → Q (.ref l) H'
def GV1 (q : Pq) : Prop := GV q ∧ (Sm 100 q.1 ∧ Sm 100 q.2)
end RR
set_option maxHeartbeats 4000000
namespace RR
open PySem PySem.Spec PyProof.Rows L2 LamX
/-! ### while the dicts are made -/
structure GvSt (K : PySem.W.Frag) (C p c : Addr) (ns : List Int) (f t w : Addr) (HH H : Hp) (fk tk : List Str) (T T0 : Told) (wr : List Str) (a g : Int) : Prop where
  W : PenAt H p c ns a g
  kp : Keep p HH H
  F : ∃ kvs, H f = some (.dK kvs) ∧ Dct (GivO K C [p, f, t, w] H) kvs fk T
  TT : ∃ kvt, H t = some (.dK kvt) ∧ Dct (PrO [p, f, t, w] H) kvt tk T0
  WR : H w = some (.lst (wr.map V.str))
  nn : ∀ b ∈ [f, t, w], HH b = none ∧ b ≠ p ∧ b ≠ c
  ft : f ≠ t
  fw : f ≠ w
  tw : t ≠ w
variable {K : PySem.W.Frag} {C p c : Addr} {ns : List Int} {f t w : Addr} {HH H H' : Hp} {fk tk : List Str} {T T0 : Told} {wr : List Str} {a g a' g' : Int}
/-- names that are told alike where nothing is wrong -/
def Agree (fk : List Str) (T T0 : Told) : Prop := ∀ x, x ∈ fk → T x ≠ some badQ → T x = T0 x
end RR
set_option maxHeartbeats 4000000
namespace RR
open PySem PySem.Spec PyProof.Rows L2 LamX
/-! ### dicts made of others -/
def pairsOf (kvs : List (Key × V)) (ks : List Str) : List (Key × V) := ks.map fun nm => (Sum.inr nm, (valV kvs (Sum.inr nm)).getD .non)
def delT (T : Told) (x : Str) : Told := fun y => if y = x then none else T y
/-- names that are known, numbers that are values -/
structure Fine (K : PySem.W.Frag) (C : Addr) (H : Hp) (kvs : List (Key × V)) (fk : List Str) (T : Told) : Prop where
  D : Dct (GivR K C H) kvs fk T
  nm : ∀ x ∈ fk, x ∈ wordsL
  gv : ∀ x q, T x = some q → GV q
/-- what is promised of equal_right -/
def spEqualR (K : PySem.W.Frag) (CV C : Addr) : Sp := fun vs H Q _ => ∃ p c ns a g h d f t kvs fk T tk, vs = [.ref p, .ref h, .ref f, .ref t] ∧ PenAt H p c ns a g ∧ a ≤ 95000 ∧ ValAt CV C H h d (srtS fk) T none ∧ GivAt K C p H f t kvs fk T tk T ∧
  (srtS fk).find? oddN = none ∧ (srtS fk).find? (badAt T) = none ∧ ∀ a' g' H', H' p = some (pen c a' g') → Keep p H H' → a ≤ a' → a' ≤ a + 2 → Q (.bl true) H'
end RR
set_option maxHeartbeats 4000000
namespace RR
open PySem PySem.Spec PyProof.Rows L2 LamX
/-! ### what 'heard' makes of a lambda, four kinds -/
def TTx (BN BV NV NR : Addr) : (XK → Hp → VK → Prop) → Hp → VK → Prop := fun tl H Q => ∀ H0, Same H H0 → ∃ (E' : XK) (Q' : VK), tl E' H0 Q' ∧
  (∀ v H1, Q' v H1 → ∀ q H2, Same H1 H2 → H2 q = some (.lst [v]) → Q (.ref q) H2) ∧
  (∀ cls d H1, E' cls d H1 → (cls = .ref NR ∧ d = none ∧ ∀ q H2, Same H1 H2 → H2 q = some (.tup [.str "ratio"]) → Q (.ref q) H2) ∨ ∃ dd x, d = some dd ∧ H1 dd = some (.xd [(("name" : Str), x)]) ∧
    ((cls = .ref BN ∧ ∀ q H2, Same H1 H2 → H2 q = some (.tup [.str "name", x]) → Q (.ref q) H2) ∨ (cls = .ref BV ∧ ∀ q H2, Same H1 H2 → H2 q = some (.tup [.str "value", x]) → Q (.ref q) H2) ∨ (cls = .ref NV ∧ ∀ q H2, Same H1 H2 → H2 q = some (.tup [.str "none", x]) → Q (.ref q) H2)))
/-- the wish that N comes -/
def wNone (N : Addr) (TB : List (Addr × Str)) (H0 : Hp) : XK := fun cls d H' => cls = .ref N ∧ d = none ∧ ExtN H0 H' ∧ Tabs TB H'
/-! ### dicts made of pairs -/
def kvOf (p : Str × V) : Key × V := (Sum.inr p.1, p.2)
/-- a list of pairs under way -/
structure DueSt (H : Hp) (D : Addr) (prs : List (Str × V)) (ps : List Addr) : Prop where
  l : H D = some (.lst (ps.map V.ref))
  pp : Paired (fun p pr => H p = some (.tup [.str pr.1, pr.2])) ps prs
/-- it is on the heap -/
def KnownV (H : Hp) (v : V) : Prop := ∀ a, v = .ref a → ∃ o, H a = some o ∧ ∀ ps, o ≠ .tbl ps
def spOddNumK (K : PySem.W.Frag) (C : Addr) : Sp := fun vs H Q _ => ∃ p c ns a g, vs = [.ref p] ∧ PenAt H p c ns a g ∧ a ≤ 98000 ∧
  ∀ v a' g' H', H' p = some (pen c a' g') → Keep p H H' → BadNum K C H' v → KnownV H' v → v ≠ .ref p → a ≤ a' → a' ≤ a + 1 → Q v H'
/-! ### the law's deeds -/
structure VSt (CV C : Addr) (TB : List (Addr × Str)) (H : Hp) (p c : Addr) (ns : List Int) (h t : Addr) (u : V) (a g : Int) (d : Addr) (ks ks' : List Str) (T : Told) (Rs : Option Pq) : Prop where
  W : PenAt H p c ns a g
  Va : ValAt CV C H h d ks T Rs
  Da : DctAt H t ks' T
  R : RestP H u Rs
  sm : ∀ q, Held T Rs q → Sm1 q
  tb : Tabs TB H
def StV (CV C : Addr) (TB : List (Addr × Str)) (H : Hp) (p c : Addr) (ns : List Int) (h t : Addr) (u : V) (a : Int) : Prop := ∃ g d ks ks' T Rs, VSt CV C TB H p c ns h t u a g d ks ks' T Rs
def spDrawnV (CV C : Addr) : Sp := fun vs H Q _ => ∃ p c ns a g, vs = [.ref p] ∧ PenAt H p c ns a g ∧ a ≤ 90000 ∧
  ∀ r h t u d ks ks' T Rs a' g' H', H' p = some (pen c a' g') → Keep p H H' → H' r = some (.tup [.ref h, .ref t, u]) → ValAt CV C H' h d ks T Rs → DctAt H' t ks' T → RestP H' u Rs → (∀ q, Held T Rs q → Sm1 q) → a ≤ a' → a' ≤ a + 80 → Q (.ref r) H'
def spLessP : Sp := fun vs H Q _ => ∃ p q, vs = [.ref p] ∧ Pr H p (q : Pq).1 q.2 ∧ 0 < q.2 ∧ Sm 200 q.1 ∧ Sm 200 q.2 ∧ ∀ r H', Same H H' → Pr H' r (lessQ q).1 (lessQ q).2 → Q (.ref r) H'
def spTimesP : Sp := fun vs H Q _ => ∃ p1 p2 q u, vs = [.ref p1, .ref p2] ∧ Pr H p1 (q : Pq).1 q.2 ∧ Pr H p2 (u : Pq).1 u.2 ∧ 0 < q.2 ∧ 0 < u.2 ∧ Sm 200 q.1 ∧ Sm 200 q.2 ∧ Sm 200 u.1 ∧ Sm 200 u.2 ∧ ∀ r H', Same H H' → Pr H' r (timesQ u q).1 (timesQ u q).2 → Q (.ref r) H'
def spIsDue (CV C : Addr) (TB : List (Addr × Str)) : Sp := fun vs H Q _ => ∃ l h d t u ks ks' T Rs, vs = [.ref l, .ref t, u] ∧ H l = some (.lst [.ref h]) ∧ ValAt CV C H h d ks T Rs ∧ DctAt H t ks' T ∧ RestP H u Rs ∧ Tabs TB H ∧ ∀ H', ExtN H H' → Tabs TB H' → Q (.bl true) H'
def spTurnR (CV C : Addr) (TB : List (Addr × Str)) : Sp := fun vs H Q _ => ∃ h t u d ks ks' T Rs, vs = [.ref h, .ref t, u] ∧ ValAt CV C H h d ks T Rs ∧ DctAt H t ks' T ∧ RestP H u Rs ∧ Tabs TB H ∧ ∀ H', ExtN H H' → Tabs TB H' → Q (.bl true) H'
def spTimesR (CV C : Addr) (TB : List (Addr × Str)) : Sp := fun vs H Q _ => ∃ p c ns h t u a, vs = [.ref p, .ref h, .ref t, u] ∧ StV CV C TB H p c ns h t u a ∧ a ≤ 90000 ∧ ∀ a' H', StV CV C TB H' p c ns h t u a' → a ≤ a' → a' ≤ a + 10 → Q (.bl true) H'
def spTwoR (CV C : Addr) (TB : List (Addr × Str)) : Sp := fun vs H Q _ => ∃ p c ns h t u a, vs = [.ref p] ∧ StV CV C TB H p c ns h t u a ∧ a ≤ 90000 ∧ ∀ a' H', StV CV C TB H' p c ns h t u a' → a ≤ a' → a' ≤ a + 40 → Q (.bl true) H'
end RR
set_option maxHeartbeats 4000000
namespace RR
open PySem PySem.Spec PyProof.Rows L2 LamX
/-- while values are drawn -/
structure DrSt (C p c : Addr) (ns : List Int) (f t : Addr) (HH H : Hp) (fk : List Str) (T : Told) (a g : Int) : Prop where
  W : PenAt H p c ns a g
  kp : Keep p HH H
  F : ∃ kvs, H f = some (.dK kvs) ∧ Dct (fun v q => GoodNum C H v q) kvs fk T
  TT : ∃ kvs, H t = some (.dK kvs) ∧ Dct (PrV H) kvs fk T
  gt : GT T
  sm : ∀ x q, T x = some q → Sm1 q
  nf : HH f = none
  nt : HH t = none
  ft : f ≠ t
  fp : f ≠ p
  tp : t ≠ p
def zeroT (T : Told) (x : Str) : Bool := match T x with
  | some q => decide (q.1 = 0)
  | none => false
end RR
set_option maxHeartbeats 4000000
namespace RR
open PySem PySem.Spec PyProof.Rows L2 LamX
/-- what is no name, with its data -/
def WrongV (H : Hp) (v : V) (d : PyData) : Prop := (∃ x, v = .str x ∧ d = .str x) ∨ (v = .non ∧ d = .none) ∨ (∃ i, v = .int i ∧ d = .int i) ∨ (∃ b, v = .bl b ∧ d = .bool b) ∨ (∃ a, v = .ref a ∧ H a = some (.lst [.str "a"]) ∧ d = .list [.str "a"]) ∨ (∃ a, v = .ref a ∧ H a = some (.tup []) ∧ d = .tuple [])
def lastD (d : PyData) : PyData := .list [.tuple [.str "name", d], .tuple [.str "value", .str "good"], .tuple [.str "value", .str "bad"]]
def wrongL : List PyData := [.str "", .str "A", .str "net", .none, .int 7, .list [.str "a"], .str "abcdefghi", .tuple [], .bool true]
/-- while values of two numbers are tried -/
structure TwoSt (K : PySem.W.Frag) (CV C : Addr) (TB : List (Addr × Str)) (H : Hp) (p c : Addr) (ns : List Int) (h t : Addr) (u : V) (a g : Int) (d : Addr) (ks ks' : List Str) (T : Told) (Rs : Option Pq) (D : Addr) (sm : List Str) (w1 : V) (gq : Pq) (v x : V) (xd : PyData) : Prop where
  S : VSt CV C TB H p c ns h t u a g d ks ks' T Rs
  l : H D = some (.lst (sm.map V.str))
  Dp : D ≠ p
  gn : GoodNum C H w1 gq
  wn : w1 ≠ .ref p
  bn : BadNum K C H v
  kn : KnownV H v
  vn : v ≠ .ref p
  wr : WrongV H x xd
  nn : NotName K H x
  xn : x ≠ .ref p
/-- the list of what was heard -/
def LS (H : Hp) (L : Addr) (hs : List (Addr × List V)) : Prop := H L = some (.lst (hs.map fun e => V.ref e.1)) ∧ ∀ e ∈ hs, H e.1 = some (.tup e.2)
end RR
set_option maxHeartbeats 4000000
namespace RR
open PySem PySem.Spec
/-! ### how many noughts a text holds -/
def zn : Nat → Nat → Nat
  | 0, _ => 0
  | f + 1, n => if n < 10 then (if n = 0 then 1 else 0) else (if n % 10 = 0 then 1 else 0) + zn f (n / 10)
/-- noughts of a fraction's text, 0 <= top -/
def zq (t b : Nat) : Nat := zn 60 t + (if b = 1 then 0 else zn 60 b)
/-! ### the fractions that are drawn -/
def topN : List Nat := [0, 1, 2, 3, 5, 7, 12, 30, 10 ^ 9 + 7, 10 ^ 29] ++ List.range 100
def botN : List Nat := [1, 2, 3, 4, 6, 12, 10 ^ 9 + 7, 10 ^ 29] ++ (List.range 100).map (· + 1)
/-- no text of such a fraction has 11, 12 or 13 noughts -/
def okz (t b : Nat) : Bool := let z := zq t b; !(z == 11 || z == 12 || z == 13)
/-- nor of what is made of it: itself, twice, 1 less it, 1 over it -/
def oneOk (t b : Nat) : Bool := okz t b && (let h := Nat.gcd (2 * t) b; okz (2 * t / h) (b / h)) && (t > b || okz (b - t) b) && (t == 0 || okz b t)
/-- of its lowest terms, and of its top alone -/
def okAll (t0 b0 : Nat) : Bool := let g := Nat.gcd t0 b0; oneOk (t0 / g) (b0 / g) && oneOk (t0 / g) 1
/-- a fraction in lowest terms as they are drawn -/
def ZF (t b : Int) : Prop := oneOk t.natAbs b.natAbs = true ∧ oneOk t.natAbs 1 = true
end RR
set_option maxHeartbeats 4000000
namespace RR
open PySem PySem.Spec PyProof.Rows L2 LamX
section
variable {X : Cx} {CX : CXT} {C f : Addr} {n : Nat} {g : Sp} {E : XK}
/-- None == x, x an instance with an own == -/
def rEqNR (C : Addr) (g : Sp) (E : XK) : R2 := fun x y H Q => ∃ a dx fs, x = .non ∧ y = .ref a ∧ H a = some (.ins C dx fs) ∧ g [.ref a, .non] H Q E
end
/-! ### == and the text of values with a rest -/
def eqRest : Option Pq → Option Pq → Bool
  | none, none => true
  | some p, some q => decide (p.1 = q.1 ∧ p.2 = q.2)
  | none, some _ => false
  | some _, none => false
def spVEqR (K : PySem.W.Frag) (CV C : Addr) : Sp := fun vs H Q _ => ∃ h d ks T Rs y, vs = [.ref h, y] ∧ ValAt CV C H h d ks T Rs ∧
  ((∃ h' d' ks' T' Rs', y = .ref h' ∧ d' ≠ d ∧ ValAt CV C H h' d' ks' T' Rs' ∧ Q (.bl (eqTold ks ks'.length T T' && eqRest Rs Rs')) H) ∨ (∃ t, TyX K H y t ∧ PySem.W.kitOne K t (.ref CV) = some false ∧ Q (.bl false) H))
/-- the text of one told value -/
def itemT (T : Told) (nm : Str) : Str := nm ++ " " ++ (match T nm with
  | some q => txt q.1 q.2
  | none => Str.empty)
def restL : Option Pq → List Str
  | none => []
  | some q => ["* " ++ txt q.1 q.2]
def partsT (ks : List Str) (T : Told) (Rs : Option Pq) : List Str := (srtS ks).map (itemT T) ++ restL Rs
def shownT (ks : List Str) (T : Told) (Rs : Option Pq) : Str := if partsT ks T Rs = [] then "none" else Txt.join ", " (partsT ks T Rs)
def spVStrX (CV C : Addr) : Sp := fun vs H Q _ => ∃ h d ks T Rs, vs = [.ref h] ∧ ValAt CV C H h d ks T Rs ∧ ∀ H', Same H H' → Q (.str (shownT ks T Rs)) H'
/-! ### copies -/
def spCopy (CV C : Addr) (TB : List (Addr × Str)) : Sp := fun vs H Q E => ∃ h d ks T Rs, vs = [.ref h] ∧ ValAt CV C H h d ks T Rs ∧ Tabs TB H ∧ ∀ h' d' ks' H', ExtN H H' → Tabs TB H' → NewD H d' → ValAt CV C H' h' d' ks' T Rs → Q (.ref h') H'
def slSame (C : Addr) : Sl := fun v H Q _ => ∃ a q, v = .ref a ∧ RatAt C H a (q : Pq).1 q.2 ∧ GV q ∧ Q (.ref a) H
/-! ### what is drawn -/
def ZN (q : Pq) : Prop := oneOk q.1.natAbs q.2.natAbs = true
def GVZ (q : Pq) : Prop := GV1 q ∧ (ZN q ∧ ZN (q.1, 1))
def spFracZ : Sp := fun vs H Q _ => ∃ p c ns a g, vs = [.ref p] ∧ PenAt H p c ns a g ∧ a ≤ 99000 ∧ ∀ q t b a' g' H', H' p = some (pen c a' g') → Keep p H H' → H q = none → Pr H' q t b → Low t b → Sm 100 t → Sm 100 b → ZF t b → a ≤ a' → a' ≤ a + 5 → Q (.ref q) H'
def spNumberZ (C : Addr) : Sp := fun vs H Q _ => ∃ p c ns a g, vs = [.ref p] ∧ PenAt H p c ns a g ∧ a ≤ 98000 ∧
  ∀ r pq w q a' g' H', H' p = some (pen c a' g') → Keep p H H' → H' r = some (.tup [.ref pq, w]) → Pr H' pq q.1 q.2 → GoodNum C H' w q → (Sm 100 q.1 ∧ Sm 100 q.2) → ZN q → w ≠ .ref p → a ≤ a' → a' ≤ a + 7 → Q (.ref r) H'
def spTextP : Sp := fun vs H Q _ => ∃ p t b, vs = [.ref p] ∧ Pr H p t b ∧ 0 < b ∧ Sm 1900 t ∧ Sm 1900 b ∧ Q (.str (txt t b)) H
def spShown : Sp := fun vs H Q _ => ∃ t u ks T Rs, vs = [.ref t, u] ∧ DctAt H t ks T ∧ RestP H u Rs ∧ GT T ∧ GO Rs ∧ ∀ H', Same H H' → Q (.str (shownT ks T Rs)) H'
end RR
set_option maxHeartbeats 4000000
namespace RR
open PySem PySem.Spec PyProof.Rows L2 LamX
/-! ### texts whose repr is the text between two quotes -/
def tame (c : Nat) : Bool := decide (31 < c ∧ c < 127 ∧ c ≠ 39 ∧ c ≠ 34 ∧ c ≠ 92)
def Tame (x : Str) : Prop := ∀ c ∈ x.cps.toList, tame c = true
theorem tame_lt {c : Nat} (h : tame c = true) : c < 127 := (of_decide_eq_true h).2.1
/-! ### texts that may be laid -/
def LowS (x : Str) : Prop := ∀ c ∈ x.cps.toList, c < 127
theorem Tame.fits {x : Str} (h : Tame x) : LowS x := fun c hc => tame_lt (h c hc)
theorem LowS.plain {x : Str} (h : LowS x) : Plain x := fun c hc => Nat.lt_trans (h c hc) (by decide)
theorem LowS.lay {x : Str} (h : LowS x) : PyData.canLay0 (.str x) = true := by
  show x.cps.all (fun c => decide (c < 0x110000)) = true
  rw [← Array.all_toList, List.all_eq_true]
  exact fun c hc => decide_eq_true (Nat.lt_trans (h c hc) (by decide))
/-! ### how often a sign stands in a text -/
def cn (k : Nat) (x : Str) : Nat := x.cps.toList.count k
/-! ### faces -/
def reprT (T : Told) (nm : Str) : Str := match T nm with
  | some q => reprR q.1 q.2
  | none => Str.empty
def reprO : Option Pq → Str
  | none => "None"
  | some q => reprR q.1 q.2
def faceD (ks : List Str) (T : Told) (Rs : Option Pq) : PyData := .tuple [.tuple ((srtS ks).map PyData.str), .list (((srtS ks).map (reprT T)).map PyData.str), .str (reprO Rs), .str (shownT ks T Rs)]
def faceT (ks : List Str) (T : Told) (Rs : Option Pq) : Str := (faceD ks T Rs).shown
def czq (q : Pq) : Nat := cn 48 (txt q.1 q.2)
def czR : Option Pq → Nat
  | none => 0
  | some q => czq q
def czN (T : Told) (n : Str) : Nat := match T n with
  | some q => czq q
  | none => 0
end RR
set_option maxHeartbeats 4000000
namespace RR
open PySem PySem.Spec PyProof.Rows L2
open LamX
/-! ### links: a name and two joints; their order -/
abbrev Lk := Str × Int × Int
/-- the lesser joint first -/
def norm (l : Lk) : Lk := if l.2.1 ≤ l.2.2 then l else (l.1, l.2.2, l.2.1)
def le3 (a b : Lk) : Bool := if a.1 = b.1 then decide (a.2.1 < b.2.1 ∨ (a.2.1 = b.2.1 ∧ a.2.2 ≤ b.2.2)) else leS a.1 b.1
theorem le3_trans (a b c : Lk) (h1 : le3 a b = true) (h2 : le3 b c = true) : le3 a c = true := by
  unfold le3 at *
  by_cases e1 : a.1 = b.1
  · by_cases e2 : b.1 = c.1
    · rw [if_pos e1, decide_eq_true_eq] at h1
      rw [if_pos e2, decide_eq_true_eq] at h2
      rw [if_pos (e1.trans e2), decide_eq_true_eq]
      omega
    · rw [if_neg e2] at h2
      rw [if_neg (e1 ▸ e2), e1]
      exact h2
  · by_cases e2 : b.1 = c.1
    · rw [if_neg e1] at h1
      rw [if_neg (e2 ▸ e1), ← e2]
      exact h1
    · rw [if_neg e1] at h1
      rw [if_neg e2] at h2
      have h3 := leS_trans _ _ _ h1 h2
      by_cases e3 : a.1 = c.1
      · rw [← e3] at h2
        exact (e1 (leS_anti _ _ h1 h2)).elim
      · rw [if_neg e3]
        exact h3
theorem le3_total (a b : Lk) : (le3 a b || le3 b a) = true := by
  unfold le3
  by_cases e : a.1 = b.1
  · rw [if_pos e, if_pos e.symm, Bool.or_eq_true, decide_eq_true_eq, decide_eq_true_eq]
    omega
  · rw [if_neg e, if_neg fun z => e z.symm]
    exact leS_total _ _
theorem le3_anti (a b : Lk) (h1 : le3 a b = true) (h2 : le3 b a = true) : a = b := by
  unfold le3 at *
  by_cases e : a.1 = b.1
  · rw [if_pos e, decide_eq_true_eq] at h1
    rw [if_pos e.symm, decide_eq_true_eq] at h2
    obtain ⟨n, u, v⟩ := a
    obtain ⟨n', u', v'⟩ := b
    dsimp only at *
    subst e
    rw [show u = u' from by omega, show v = v' from by omega]
  · rw [if_neg e] at h1
    rw [if_neg fun z => e z.symm] at h2
    exact (e (leS_anti _ _ h1 h2)).elim
theorem one_order {α : Type} {le : α → α → Bool} (anti : ∀ a b, le a b = true → le b a = true → a = b) : ∀ {xs ys : List α}, xs.Perm ys → (xs.Pairwise fun a b => le a b = true) → (ys.Pairwise fun a b => le a b = true) → xs = ys
  | [], ys, h, _, _ => (List.Perm.nil_eq h)
  | x :: xs, [], h, _, _ => absurd h.length_eq (by simp)
  | x :: xs, y :: ys, h, h1, h2 => by
    have hx : x ∈ y :: ys := h.mem_iff.mp List.mem_cons_self
    have hy : y ∈ x :: xs := h.mem_iff.mpr List.mem_cons_self
    have e : x = y := by
      rcases List.mem_cons.mp hx with e | hx
      · exact e
      rcases List.mem_cons.mp hy with e | hy
      · exact e.symm
      exact anti _ _ ((List.pairwise_cons.mp h1).1 _ hy) ((List.pairwise_cons.mp h2).1 _ hx)
    subst e
    rw [one_order anti (List.Perm.cons_inv h) (List.pairwise_cons.mp h1).2 (List.pairwise_cons.mp h2).2]
/-- links in order, the lesser joint first -/
def ordL (ls : List Lk) : List Lk := (ls.map norm).mergeSort le3
theorem ordL_perm (ls : List Lk) : (ordL ls).Perm (ls.map norm) := List.mergeSort_perm _ _
theorem ordL_pw (ls : List Lk) : (ordL ls).Pairwise fun a b => le3 a b = true := List.pairwise_mergeSort (fun a b c => le3_trans a b c) le3_total _
theorem ordL_len (ls : List Lk) : (ordL ls).length = ls.length := by rw [(ordL_perm ls).length_eq, List.length_map]
theorem ordL_is {ls rs : List Lk} (pm : rs.Perm (ls.map norm)) (pw : rs.Pairwise fun a b => le3 a b = true) : rs = ordL ls := one_order le3_anti (pm.trans (ordL_perm ls).symm) pw (ordL_pw ls)
theorem norm_norm (l : Lk) : norm (norm l) = norm l := by
  unfold norm
  by_cases h : l.2.1 ≤ l.2.2
  · rw [if_pos h, if_pos h]
  · rw [if_neg h]
    dsimp only
    rw [if_pos (by omega)]
theorem norm_name (l : Lk) : (norm l).1 = l.1 := by
  unfold norm
  split <;> rfl
theorem norm_joints (l : Lk) {P : Int → Prop} (h1 : P l.2.1) (h2 : P l.2.2) : P (norm l).2.1 ∧ P (norm l).2.2 := by
  unfold norm
  split
  · exact ⟨h1, h2⟩
  · exact ⟨h2, h1⟩
/-! the rows that the program sorts -/
def rowK (l : Lk) (i : Int) : List Key := [.inr l.1, .inl l.2.1, .inl l.2.2, .inl i]
def shR : Nat → Bool := fun i => decide (i = 0)
theorem rowK_shape (l : Lk) (i : Int) : Shape shR (rowK l i) := ⟨by simp [rowK], fun j k h => by
  match j, h with
  | 0, h => cases h; rfl
  | 1, h => cases h; rfl
  | 2, h => cases h; rfl
  | 3, h => cases h; rfl⟩
theorem rowK_inj {l m : Lk} {i j : Int} (h : rowK l i = rowK m j) : l = m ∧ i = j := by
  unfold rowK at h
  simp only [List.cons.injEq, Sum.inr.injEq, Sum.inl.injEq, and_true] at h
  obtain ⟨h1, h2, h3, h4⟩ := h
  exact ⟨Prod.ext h1 (Prod.ext h2 h3), h4⟩
theorem rowK_le {l m : Lk} {i j : Int} (h : leK (rowK l i) (rowK m j)) : le3 l m = true := by
  unfold leK PyProof.Rows.KeyOrd.kle at h
  have h1 : PyProof.Rows.lexLt PyProof.Rows.itemOrd [.inr m.1.cps.toList, .inl m.2.1, .inl m.2.2, .inl j] [.inr l.1.cps.toList, .inl l.2.1, .inl l.2.2, .inl i] = false := h
  have at_ := fun (a b : Int ⊕ List Nat) r t => PyProof.Rows.lex_false (O := PyProof.Rows.itemOrd) (x := a) (y := b) (r := r) (t := t)
  rw [at_] at h1
  obtain ⟨a1, a2⟩ := h1
  have a1' : ¬ m.1.cps.toList < l.1.cps.toList := of_decide_eq_false a1
  have lt_of : ∀ {a b : Str}, ¬ b.cps.toList < a.cps.toList → leS a b = true := fun h => decide_eq_true (List.not_lt.mp h)
  unfold le3
  by_cases e : l.1 = m.1
  · rw [if_pos e, decide_eq_true_eq]
    have b : PyProof.Rows.lexLt PyProof.Rows.itemOrd [.inl m.2.1, .inl m.2.2, .inl j] [.inl l.2.1, .inl l.2.2, .inl i] = false := a2.resolve_left fun z => by
      have z' : l.1.cps.toList < m.1.cps.toList := of_decide_eq_true z
      rw [e] at z'
      exact List.lt_irrefl _ z'
    rw [at_] at b
    obtain ⟨b1, b2⟩ := b
    have b1' : ¬ m.2.1 < l.2.1 := of_decide_eq_false b1
    rcases b2 with b2 | b2
    · have : l.2.1 < m.2.1 := of_decide_eq_true b2
      exact .inl this
    · rw [at_] at b2
      have c1 : ¬ m.2.2 < l.2.2 := of_decide_eq_false b2.1
      omega
  · rw [if_neg e]
    exact lt_of a1'
/-! ### links in the heap -/
def TL (H : Hp) (v : V) (l : Lk) : Prop := ∃ q, v = .ref q ∧ H q = some (.tup [.str l.1, .int l.2.1, .int l.2.2])
/-- what is a tuple stays so -/
def StT (H H' : Hp) : Prop := ∀ a xs, H a = some (.tup xs) → H' a = some (.tup xs)
theorem StT.refl (H : Hp) : StT H H := fun _ _ h => h
theorem StT.trans {H H1 H2 : Hp} (a : StT H H1) (b : StT H1 H2) : StT H H2 := fun x xs h => b x xs (a x xs h)
theorem StT.same {H H' : Hp} (s : Same H H') : StT H H' := fun a xs h => s a _ h
theorem StT.keep {p : Addr} {H H' : Hp} (k : Keep p H H') {o : HO} (e : H p = some o) (n : ∀ xs, o ≠ .tup xs) : StT H H' := fun a xs h => k a _ h fun z => by
  subst z
  rw [e] at h
  exact n xs (Option.some.inj h)
theorem StT.new {H H1 : Hp} (a : StT H H1) {q : Addr} {o : HO} (n : H1 q = none) : StT H (upd H1 q o) := fun x xs h => hp_new (a x xs h) n
theorem StT.mut {H H1 : Hp} (a : StT H H1) {q : Addr} {o u : HO} (e : H1 q = some u) (n : ∀ xs, u ≠ .tup xs) : StT H (upd H1 q o) := fun x xs h => hp_mut (a x xs h) fun z => by
  subst z
  have := a _ _ h
  rw [e] at this
  exact n xs (Option.some.inj this)
theorem TL.st {H H' : Hp} (s : StT H H') {v : V} {l : Lk} (h : TL H v l) : TL H' v l := let ⟨q, e, t⟩ := h; ⟨q, e, s _ _ t⟩
abbrev TLs (H : Hp) : List V → List Lk → Prop := Paired (TL H)
theorem TLs.st {H H' : Hp} (s : StT H H') {vs : List V} {ls : List Lk} (h : TLs H vs ls) : TLs H' vs ls := Paired.mono (fun _ _ => TL.st s) h
theorem TLs.len {H : Hp} {vs : List V} {ls : List Lk} (h : TLs H vs ls) : vs.length = ls.length := Paired.length h
theorem pair_at {α β : Type} {F : α → β → Prop} : ∀ {xs : List α} {ys : List β} {i : Nat} {x : α}, Paired F xs ys → xs[i]? = some x → ∃ y, ys[i]? = some y ∧ F x y
  | [], [], _, _, .nil, h => by simp at h
  | _ :: _, _ :: _, 0, _, .cons f _, h => by
    cases h
    exact ⟨_, rfl, f⟩
  | _ :: _, _ :: _, i + 1, _, .cons _ t, h => pair_at (i := i) t h
theorem pair_take {α β : Type} {F : α → β → Prop} : ∀ {xs : List α} {ys : List β}, Paired F xs ys → ∀ n, Paired F (xs.take n) (ys.take n)
  | _, _, _, 0 => .nil
  | _, _, .nil, _ + 1 => .nil
  | _, _, .cons f t, n + 1 => .cons f (pair_take t n)
theorem pair_drop {α β : Type} {F : α → β → Prop} : ∀ {xs : List α} {ys : List β}, Paired F xs ys → ∀ n, Paired F (xs.drop n) (ys.drop n)
  | _, _, h, 0 => h
  | _, _, .nil, _ + 1 => .nil
  | _, _, .cons f t, n + 1 => pair_drop t n
theorem pair_app {α β : Type} {F : α → β → Prop} : ∀ {xs xs' : List α} {ys ys' : List β}, Paired F xs ys → Paired F xs' ys' → Paired F (xs ++ xs') (ys ++ ys')
  | _, _, _, _, .nil, h => h
  | _, _, _, _, .cons f t, h => .cons f (pair_app t h)
/-- links as data -/
def dL (l : Lk) : PyData := .tuple [.str l.1, .int l.2.1, .int l.2.2]
theorem TL.dp {K : PySem.W.Frag} {H : Hp} {v : V} {l : Lk} (h : TL H v l) : Dp K H v (dL l) := by
  obtain ⟨q, rfl, e⟩ := h
  exact .tup (SqT.of e) (.cons (.str _) (.cons (.int _) (.cons (.int _) .nil)))
theorem TLs.dp {K : PySem.W.Frag} {H : Hp} {vs : List V} {ls : List Lk} (h : TLs H vs ls) : DpAll K H vs (ls.map dL) := by
  induction h with
  | nil => exact .nil
  | cons f _ ih => exact .cons f.dp ih
/-! ### joints and names of links -/
def jointsL (ls : List Lk) : List Int := srtI (([0, 1] ++ ls.map (fun l => l.2.1)) ++ ls.map fun l => l.2.2)
def namesL (ls : List Lk) : List Str := onceS (ls.map fun l => l.1)
theorem onceS_congr {a b : List Str} (h : ∀ x, x ∈ a ↔ x ∈ b) : onceS a = onceS b := by
  unfold onceS
  exact srtS_congr (same_once (dd_one a) (dd_one b) fun x => dd_mem.trans ((h x).trans dd_mem.symm))
theorem ordL_mem {ls : List Lk} {l : Lk} : l ∈ ordL ls ↔ ∃ m ∈ ls, norm m = l := by
  rw [(ordL_perm ls).mem_iff, List.mem_map]
theorem namesL_ord (ls : List Lk) : namesL (ordL ls) = namesL ls := by
  unfold namesL
  refine onceS_congr fun x => ?_
  rw [((ordL_perm ls).map fun l => l.1).mem_iff, List.map_map]
  rw [show ((fun l : Lk => l.1) ∘ norm) = fun l => l.1 from funext norm_name]
end RR
set_option maxHeartbeats 4000000
namespace RR
open PySem PySem.Spec PyProof.Rows L2
/-! ### names: one to eight letters, no kept word -/
structure Nm (x : Str) : Prop where
  sg : ∀ c ∈ x.cps.toList, 97 ≤ c ∧ c ≤ 122
  lo : 1 ≤ x.length
  hi : x.length ≤ 8
  nr : x ≠ "open" ∧ x ≠ "shut" ∧ x ≠ "net"
theorem letters_fact : ((List.range 123).all fun c => decide (c < 97) || (Unicode.isAlpha c && Unicode.isLower c && !(Unicode.isUpper c || Unicode.isTitle c))) = true := by decide +kernel
theorem letter_is {c : Nat} (h : 97 ≤ c ∧ c ≤ 122) : Unicode.isAlpha c = true ∧ Unicode.isLower c = true ∧ (Unicode.isUpper c || Unicode.isTitle c) = false := by
  have z := List.all_eq_true.mp letters_fact c (List.mem_range.mpr (by omega))
  rw [decide_eq_false (by omega), Bool.false_or] at z
  simp only [Bool.and_eq_true, Bool.not_eq_true'] at z
  exact ⟨z.1.1, z.1.2, z.2⟩
theorem len_list (x : Str) : x.length = x.cps.toList.length := by simp [Str.length]
theorem inV_res (x : Str) : inV (.str x) resV = true ↔ x = "open" ∨ x = "shut" ∨ x = "net" := by
  unfold inV resV
  simp only [List.any_cons, List.any_nil, Bool.or_false, Bool.or_eq_true]
  have e : ∀ y : Str, eqV (.str y) (.str x) = true ↔ x = y := fun y => by
    simp [eqV]
    exact eq_comm
  rw [e, e, e]
theorem Nm.is {x : Str} (h : Nm x) : isName x = true := by
  unfold isName
  have h1 := h.lo
  have h2 := h.hi
  rw [decide_eq_true (show (1 : Int) ≤ (x.length : Int) by omega), decide_eq_true (show (x.length : Int) ≤ 8 by omega)]
  have h3 : inV (.str x) resV = false := by
    cases e : inV (.str x) resV with
    | false => rfl
    | true =>
      obtain ⟨n1, n2, n3⟩ := h.nr
      rcases (inV_res x).mp e with z | z | z
      · exact (n1 z).elim
      · exact (n2 z).elim
      · exact (n3 z).elim
  have h4 : Txt.isascii x = true := by
    unfold Txt.isascii
    rw [← Array.all_toList]
    exact List.all_eq_true.mpr fun c hc => decide_eq_true (by have := h.sg c hc; omega)
  have h5 : Txt.isalpha x = true := by
    unfold Txt.isalpha
    rw [← Array.all_toList, decide_eq_true (show x.length > 0 by omega), Bool.true_and]
    exact List.all_eq_true.mpr fun c hc => (letter_is (h.sg c hc)).1
  have h6 : Txt.islower x = true := by
    unfold Txt.islower
    rw [← Array.any_toList, ← Array.any_toList]
    obtain ⟨c, hc⟩ : ∃ c, c ∈ x.cps.toList := List.exists_mem_of_length_pos (by rw [← len_list]; omega)
    rw [List.any_eq_true.mpr ⟨c, hc, (letter_is (h.sg c hc)).2.1⟩, List.any_eq_false.mpr fun d hd => by rw [(letter_is (h.sg d hd)).2.2]; exact Bool.false_ne_true]
    rfl
  rw [h3, h4, h5, h6]
  rfl
theorem Nm.v {x : Str} (h : Nm x) : NameV (.str x) x := ⟨rfl, le_line8 h.hi, h.is⟩
theorem Nm.tame {x : Str} (h : Nm x) : Tame x := fun c hc => by
  have := h.sg c hc
  exact decide_eq_true (by omega)
theorem app_list (x y : Str) : (x ++ y).cps.toList = x.cps.toList ++ y.cps.toList := by
  show (x.cps ++ y.cps).toList = _
  rw [Array.toList_append]
/-! ### joints as two signs; links as lines -/
/-- a joint's two signs -/
def two2 (n : Int) : Str := cutS (Str.ofString "0" ++ Str.ofString (toString n)) (some (-2)) none
/-- a link's line -/
def lineL (l : Lk) : Str := l.1 ++ Str.ofString " " ++ two2 l.2.1 ++ Str.ofString " " ++ two2 l.2.2
/-- a link between joints 0 to 99 -/
structure Lok (l : Lk) : Prop where
  nm : Nm l.1
  u : 0 ≤ l.2.1 ∧ l.2.1 ≤ 99
  v : 0 ≤ l.2.2 ∧ l.2.2 ≤ 99
theorem Lok.norm {l : Lk} (h : Lok l) : Lok (norm l) := by
  have z := norm_joints l (P := fun n => 0 ≤ n ∧ n ≤ 99) h.u h.v
  exact ⟨by rw [norm_name]; exact h.nm, z.1, z.2⟩
theorem Lok.ord {ls : List Lk} (h : ∀ l ∈ ls, Lok l) : ∀ l ∈ ordL ls, Lok l := fun l hl => by
  obtain ⟨m, hm, rfl⟩ := ordL_mem.mp hl
  exact (h m hm).norm
/-! the lines' order is the links' order -/
theorem pw_map {α β : Type} {R : α → α → Prop} {S : β → β → Prop} {f : α → β} {l : List α} (h : l.Pairwise R) (k : ∀ a ∈ l, ∀ b ∈ l, R a b → S (f a) (f b)) : (l.map f).Pairwise S := by
  refine List.pairwise_map.mpr ?_
  exact List.Pairwise.imp_of_mem (fun ha hb r => k _ ha _ hb r) h
end RR
set_option maxHeartbeats 4000000
namespace RR
open PySem PySem.Spec PyProof.Rows L2
/-! ### a field of an error, its dict looked through -/
def tAtQ (K : PySem.W.Frag) (f : Str) (te : TE) : TE := fun σ H Q => te σ H fun x H1 => ∃ (a D dd : Addr) (fs : List (Str × V)) (v : V), x = .ref a ∧ ExcC K D ∧ PySem.W.findIn K (.ref D) f = some none ∧ H1 a = some (HeldX (.ref D) (some dd) a) ∧ H1 dd = some (.xd fs) ∧ List.lookup f fs = some v ∧ Q v H1
theorem pe_atQ {X : Cx} {f : Str} {e : Expr} {te : TE} {pos : Pos} (he : PE X e te) (hb : attributeBase e f X.env (eval e X.env) = eval e X.env := by rfl) : PE X (.Attribute e f pos) (tAtQ X.K f te) := by
  refine ⟨fun pins s σ H Q I h => attr_of hb (thn (he.run pins s σ H _ I h) fun u s1 hh => ?_)⟩
  obtain ⟨x, H1, I1, rx, a, D, dd, fs, v, rfl, T, hno, ha, hd, l, q⟩ := hh
  obtain rfl : u = Value.ref a := rx
  obtain ⟨⟨oe, oa, hz, vs, hdt⟩, _, _⟩ := I1.hok a _ ha
  obtain ⟨mA, hns, hr⟩ := (show ObjOk X.prog X.w H1 s1.heap dd (.xd fs) from I1.hok dd _ hd)
  obtain ⟨od, ho, hl⟩ := lookIn_ns hns
  obtain ⟨u, hu, ru⟩ := RelO.some_of (v := v) (o := mA f) (by rw [← l]; exact hr f)
  have J : PySem.W.InstAt s1.heap a oe D (some od) := ⟨oa, hz.1, by unfold PySem.W.notCls; rw [hdt] <;> rfl, by rw [hz.2]; exact ho⟩
  exact HandSPX.exc_get I1.kIn J T.hg T.hk T.hs (PySem.W.findObj_own T.hd hno rfl (by rw [hl, hu])) (handed_of ru) ⟨v, H1, I1.tok _, ru, q⟩
/-- an error of an own class without own __init__, made without fields, as a value -/
def tMk0V (C : Addr) : TE := fun σ H Q => ∀ a, H a = none → Q (.ref a) (upd H a (HeldX (.ref C) none a))
theorem pe_mk0 {X : Cx} {C : Addr} {bmB : List Value} {B newId initId : String} {x : Str} {p pos : Pos} (F : ExcBaseFacts B newId initId bmB) (q : PySem.W.excIn X.K C bmB newId = true) (gC : X.mg x = some (.ref C)) (kC : PySem.W.keepIn X.K (.ref C) = true) (hg : Gl X x)
    (hdb : (x == ("__debug__" : Str)) = false := by decide) : PE X (.Call (.Name x p) [] [] pos) (tMk0V C) := by
  refine ⟨fun pins s σ H Q I h => wpAny_Call_Name_kw (ld_glob I hg gC (PySem.W.callWith_K0 I.kIn kC ?_) hdb)⟩
  show wpAny _ _ (call (.ref C) []) _ _ _
  obtain ⟨bm, N, nm, qn, bs, hdct, sn, sub, ab, col, dd, k0, k1, k2, k3, k5, mN, hC, hN, hni, T⟩ := exc_obj I.kIn q
  refine wpAny_call_exc_subT F T hC hN hni (fun h' e hm => ?_) (by show 0 ≤ sizeLine; rw [sizeLine_eq]; omega)
  obtain ⟨t, he, _, _⟩ := hm.there
  have ne : H e = none := I.hok.gone hm.new
  exact ⟨.ref e, _, I.laidN (o := HeldX (.ref C) none e) (t' := s.toks) hm.keeps hm.new ne ⟨⟨_, he, ⟨rfl, rfl⟩, _, rfl⟩, ⟨_, he⟩, fun _ _ ⟨u, z1, z2⟩ k => ⟨u, k u z1, z2⟩⟩, rfl, h e ne⟩
end RR
namespace PySem
namespace LowW
open PySem.W PySem.Calls PyProof.Rows PySem.HandSPX Builtin Builtin.ObjectAttr
/-! ### an error with the fields way and cut -/
section
variable {prog : Program} {w : World} {A : Around} {E : Value → Shared → Prop} {R : Result → Shared → Prop} {hp : Heap} {g : Array GenState} {d : Drawn} {t : Nat} {os : OsState}
theorem store_more {M : Model} {dx : Addr} {name f0 : Str} {tk : Tok} {v v0 : Value} {Q : Fin → Shared → Prop} (hnd : hp.Ns1 dx (fun y => if y = f0 then some v0 else none))
    (hq : ∀ h' tk', h'.Ns1 dx (fun y => if y = name then some v else if y = f0 then some v0 else none) → Heap.SameBut dx hp h' → Q (.done (.ret .none)) ⟨h', g, d, tk', os⟩) :
    wpAny M A (storeInDict dx (.str name tk) name v) Q E ⟨hp, g, d, t, os⟩ := by
  unfold storeInDict newKeyGuard
  refine wpAny_bind (wpAny_pure (wpAny_bind (wpAny_nsSet1 hnd fun h1 n1 s1 => ?_)))
  obtain ⟨ob, es, ep, ho, hd, hc⟩ := n1.count (Within.cons name v (Within.cons f0 v0 Within.nil))
  have few : es.size ≤ sizeLine + 1 := Nat.le_trans hc (by show 2 ≤ _; rw [sizeLine_eq]; decide)
  refine wpAny_bind (wpAny_lookBehind ho (by rw [hd]; exact pastItsLine_dict few) ?_)
  wp_walk
  exact hq h1 _ n1 s1
theorem exc_osa2 {K : Frag} {name f0 : Str} {tk : Tok} {v v0 : Value} {x C dx : Addr} {fv : Array Value} {cd : ClassData} (X : K.In hp) (hx : hp.get? x = some { cls := .ref C, dict := some dx, data := .fields fv }) (hnd : hp.Ns1 dx (fun y => if y = f0 then some v0 else none))
    (hcd : clsIn K C = some cd) (hm : refsVE cd.mro = true) (hh : cd.hasDict = true) (ha : findIn K (.ref C) name = some none)
    (hq : ∀ h' tk', h'.Ns1 dx (fun y => if y = name then some v else if y = f0 then some v0 else none) → Heap.SameBut dx hp h' → R (.ok (.ret .none)) ⟨h', g, d, tk', os⟩) :
    codeAny (model prog w) A (.call (.builtin "object.__setattr__") ⟨[.ref x, .str name tk, v], []⟩) R ⟨hp, g, d, t, os⟩ := by
  obtain ⟨od, edx, _⟩ := L2.lookIn_ns hnd
  have I : InstAt hp x { cls := .ref C, dict := some dx, data := .fields fv } C (some od) := ⟨hx, rfl, rfl, edx⟩
  have SF := F.store_object
  have ne := refsVE_ne hm
  have hob : cd.mro.contains (.type "object") = true := (refsVE_contains "object" _ hm).trans (by decide +kernel)
  have sub : Looks (model prog w) hp (isInstance (.ref x) (.type "object")) true := I.type.andThen (looks_mroIn X (by unfold mroIn; rw [hcd, Option.bind_some, if_neg (by rw [ne]; decide), hob]))
  refine codeAny_call_builtin SF.slot.plain SF.entry (@check_slot (model prog w) _ _ ⟨hp, g, d, t, os⟩ "object.__setattr__" "object" "__setattr__" (.ref x) [.str name tk, v] [] _ SF.kind SF.split sub (SF.args (.ref x) (.str name tk) v) ?_)
  have mr : Looks (model prog w) hp (mroOf (.ref C)) cd.mro := (looks_clsIn X hcd).andThen .now
  have st : Looks (model prog w) hp (storeTaker? none) none := .now
  have cl : Looks (model prog w) hp (classData C) cd := looks_clsIn X hcd
  rw [osa_eq, refuse_eq]
  refine wpAny_bind (wpAny_bind (I.type.at (wpAny_bind (mr.at ?_))))
  rw [refsVE_pass _ _ hm]
  refine wpAny_pure (wpAny_bind (I.type.at (wpAny_bind ((looks_findIn X ha).at (wpAny_bind (st.at ?_))))))
  show wpAny _ _ (storeInOwnDict (.ref x) (.ref C) (.str name tk) name v false) _ _ _
  obtain ⟨nm, bs, mro, ns, qn, hdd, sn, sb, ab, col, del⟩ := cd
  dsimp only at hh
  subst hh
  unfold storeInOwnDict ownDictForStores
  repeat (first | with_reducible refine store_more hnd ?_ | with_reducible refine wpAny_loadPart_at hx ?_ | with_reducible refine cl.at ?_ | wp_step)
  exact fun h' tk' n s => hq h' tk' n s
end
end LowW
end PySem
-- LOWW
namespace PySem
namespace LowW
open PySem.W PySem.Calls PyProof.Rows PySem.HandSPX
/-! ### the text of __init__ -/
def iA (p1 p2 p3 : Pos) : Arguments := { posonlyargs := [], args := [{ arg := "self", annotation := none, pos := p1 }, { arg := "way", annotation := none, pos := p2 }, { arg := "cut", annotation := none, pos := p3 }], vararg := none, kwonlyargs := [], kw_defaults := [], kwarg := none, defaults := [] }
def iB (q1 q2 q3 q4 r1 r2 r3 r4 : Pos) : List Stmt := [.Assign [.Attribute (.Name "self" q1) "way" q2] (.Name "way" q3) q4, .Assign [.Attribute (.Name "self" r1) "cut" r2] (.Name "cut" r3) r4]
def iS : Scope := { kind := .function, names := [(PySem.Str.ofString "self", .local), (PySem.Str.ofString "way", .local), (PySem.Str.ofString "cut", .local)], isGenerator := false, isCoroutine := false, more := [] }
/-- what the written part says of Low, at C, and of its __init__, at fI -/
structure LowTxt (K : Frag) (mg : Str → Option Value) (cn qn : Str) (C fI : Addr) : Prop where
  gC : mg cn = some (.ref C)
  cls : ∃ nm q N bs bm sn sub ab col dd k0 k1 k2 k3 k5, K.lookup C = some (excClassObj nm q C N bs bm true sn sub ab col dd k0 k1 k2 k3 k5 "ValueError.__new__") ∧ refsVE bm = true
  sa : findIn K (.ref C) "__setattr__" = some (some (.builtin "object.__setattr__"))
  ga : findIn K (.ref C) "__getattribute__" = some (some (.builtin "BaseException.__getattribute__"))
  gg : findIn K (.ref C) "__getattr__" = some none
  noN : findIn K (.ref C) "way" = some none
  noM : findIn K (.ref C) "cut" = some none
  iC : findIn K (.ref C) "__init__" = some (some (.ref fI))
  tC : typeIn K (.ref fI) = some (.type "function")
  kC : keepIn K (.ref C) = true
  exC : subIn K (.ref C) (.type "BaseException") = some true
  tyC : typeIn K (.ref C) = some (.type "type")
  hdC : hasDictIn K C = true
  te : exmOne K (.ref C) (.ref C) = some true
  fn : ∃ (oc : Value) (od : Option Addr) (doc pm : Value) (an : Option Addr) (cdv ct : Value) (osl : Array (Option Value)) (p1 p2 p3 q1 q2 q3 q4 r1 r2 r3 r4 : Pos),
    K.lookup fI = some ⟨oc, od, .func (fnOf "__init__" qn (iA p1 p2 p3) (iB q1 q2 q3 q4 r1 r2 r3 r4) iS .none .none doc pm an cdv ct), osl⟩ ∧ codeIn K cdv qn = true
theorem one_size (v u : Value) : [v, u].length ≤ sizeLine := by
  rw [sizeLine_eq]
  exact (by decide : 2 ≤ 16777216)
theorem kept_but {K : Frag} {h h' : Heap} {x : Addr} (X : K.In h) (hx : K.lookup x = none) (k : ∀ b o, b ≠ x → h.get? b = some o → h'.get? b = some o) : K.In h' := fun a o e =>
  k a o (fun z => by rw [z, hx] at e; cases e) (X a o e)
theorem ldC {M : Model} {s : Shared} {name : Str} {scope : Scope} {L a : Addr} {cd : Value} {m : Str → Option Value} {x : Str} {pos : Pos} {v : Value} {Q : Value → Shared → Prop} {A : Around} {E : Value → Shared → Prop} (hn : s.heap.Ns L m) (hv : m x = some v) (h : Q v s)
    (hk : scope.kind = .function := by rfl) (hl : (envOfC name scope L a cd).kindOf x = some .local := by rfl) (hd : (x == ("__debug__" : Str)) = false := by decide) :
    wpAny M A (eval (.Name x pos) (envOfC name scope L a cd)) Q E s := wpAny_Name (wpAny_loadName_local hk hl hn hv h) hd
theorem ns_but {h h' : Heap} {L x : Addr} {m : Str → Option Value} (n : h.Ns L m) (ne : L ≠ x) (k : ∀ b o, b ≠ x → h.get? b = some o → h'.get? b = some o) : h'.Ns L m := by
  obtain ⟨ob, es, ep, e, r⟩ := n
  exact ⟨ob, es, ep, k _ _ ne e, r⟩
/-- what __init__ leaves of a fresh exception at x -/
structure InitEnd (h h' : Heap) (x C dx t1 : Addr) (v u : Value) : Prop where
  keep : ∀ b o, b ≠ x → h.get? b = some o → h'.get? b = some o
  obj : h'.get? x = some { cls := .ref C, dict := some dx, data := .fields #[.ref t1, .none, .none, .none, .bool false, .none] }
  dbig : h.objs.size ≤ dx
  dne : dx ≠ x
  ns : h'.Ns1 dx (fun y => if y = "cut" then some u else if y = "way" then some v else none)
/-- a made Low -/
structure OwnMade (h h' : Heap) (e C d : Addr) (v u : Value) : Prop where
  keep : ∀ b o, h.get? b = some o → h'.get? b = some o
  new : h.objs.size ≤ e
  obj : ∃ oe vs, h'.get? e = some oe ∧ oe.cls = .ref C ∧ oe.dict = some d ∧ oe.data = .fields vs ∧ vs[1]? = some .none
  dbig : h.objs.size ≤ d
  dne : d ≠ e
  ns : h'.Ns1 d (fun y => if y = "cut" then some u else if y = "way" then some v else none)
section
variable {prog : Program} {w : World} {A : Around} {E : Value → Shared → Prop} {R : Result → Shared → Prop} {s : Shared} {K : Frag} {mg : Str → Option Value} {C fI : Addr} {cn qn : Str}
theorem low_init (T : LowTxt K mg cn qn C fI) {x t0 : Addr} {v u : Value} (X : K.In s.heap) (hlim : s.heap.NoLimit) (hx : s.heap.get? x = some (excO C t0)) (hnx : K.lookup x = none) (hroom : A.depth < recursionLimit)
    (hq : ∀ h' tk dx, InitEnd s.heap h' x C dx t0 v u → R (.ok (.ret .none)) { s with heap := h', toks := tk }) :
    codeAny (model prog w) A (.call (.ref fI) ⟨[.ref x, v, u], []⟩) R s := by
  obtain ⟨oc, od, doc, pm, an, cdv, ct, osl, p1, p2, p3, q1, q2, q3, q4, r1, r2, r3, r4, ho, hcd⟩ := T.fn
  obtain ⟨nm, q, N, bs, bm, sn, sub, ab, col, dd, k0, k1, k2, k3, k5, hC, hbm⟩ := T.cls
  have hcl : clsIn K C = some { name := nm, bases := bs, mro := .ref C :: bm, ns := N, qualname := q, hasDict := true, slotNames := sn, subclasses := sub, abstract := ab, collection := col, hasDel := false } := by unfold clsIn; rw [hC] <;> rfl
  refine Att.call_fn (binds := [("self", .ref x), ("way", v), ("cut", u)]) X hlim ho hcd hroom (BindsTo.of_eq (by first | rfl | with_unfolding_all rfl)) (by first | rfl | decide | with_unfolding_all rfl) (fun s₁ IC => ?_) rfl rfl rfl
  obtain ⟨h₁, tk₁, rfl⟩ := IC.toInCall.same
  have k : ∀ b o, s.heap.get? b = some o → h₁.get? b = some o := IC.toInCall.keep
  have hn := IC.toInCall.ns
  have hxL : s.heap.objs.size ≠ x := Nat.ne_of_gt (Heap.lt_size hx)
  have X₁ : K.In h₁ := X.keeps k
  have hx₁ := k _ _ hx
  -- self.by = by
  show wpAny _ _ (execs _ _) _ _ _
  refine wpAny_execs_cons (plainObj_wpAny_Assign_Attribute ?_)
  refine ldC (v := v) hn (by first | rfl | with_unfolding_all rfl | kernel_rfl) (ldC (v := .ref x) hn (by first | rfl | with_unfolding_all rfl | kernel_rfl) ?_)
  refine set_plain X₁ (ox := excO C t0) (od := none) ⟨hx₁, rfl, rfl, trivial⟩ T.sa ?_
  refine exc_osa X₁ hx₁ hcl (show refsVE (.ref C :: bm) = true from hbm) rfl T.noN (fun h₃ tk₃ dx k₃ dn dne hx₃ hn₃ => ?_)
  show wpAny _ _ (execs _ _) _ _ _
  have z : s.heap.objs.size < h₁.objs.size := hn.lt
  have n3 := ns_but hn hxL k₃
  have X₃ : K.In h₃ := kept_but X₁ hnx k₃
  obtain ⟨ob3, ed3, _⟩ := L2.lookIn_ns hn₃
  refine wpAny_execs_cons (plainObj_wpAny_Assign_Attribute ?_)
  refine ldC (v := u) n3 (by first | rfl | with_unfolding_all rfl | kernel_rfl) (ldC (v := .ref x) n3 (by first | rfl | with_unfolding_all rfl | kernel_rfl) ?_)
  refine set_plain X₃ (od := some ob3) ⟨hx₃, rfl, rfl, ed3⟩ T.sa ?_
  refine exc_osa2 X₃ hx₃ hn₃ hcl (show refsVE (.ref C :: bm) = true from hbm) rfl T.noM (fun h4 tk4 n4 s4 => ?_)
  show wpAny _ _ (execs _ _) _ _ _
  have big : s.heap.objs.size ≤ dx := Nat.le_of_lt (Nat.lt_of_lt_of_le z dn)
  exact wpAny_execs_nil (hq h4 tk4 dx ⟨fun b o hb e => (s4.2 b (Nat.ne_of_lt (Nat.lt_of_lt_of_le (Heap.lt_size e) big))).trans (k₃ b o hb (k b o e)), (s4.2 x dne.symm).trans hx₃, big, dne, n4⟩)
theorem low_made (T : LowTxt K mg cn qn C fI) {v u : Value} (X : K.In s.heap) (hlim : s.heap.NoLimit) (hroom : A.depth + 1 < recursionLimit)
    (hq : ∀ h' tk e d, OwnMade s.heap h' e C d v u → R (.ok (.ret (.ref e))) { s with heap := h', toks := tk }) :
    codeAny (model prog w) A (.call (.ref C) ⟨[v, u], []⟩) R s := by
  obtain ⟨nm, q, N, bs, bm, sn, sub, ab, col, dd, k0, k1, k2, k3, k5, hC, hbm⟩ := T.cls
  obtain ⟨hp, g, dr, tk, os⟩ := s
  have k : ∀ b o, hp.get? b = some o → ((hp.push (kdv_tup [v, u])).push (excO C hp.objs.size)).get? b = some o := fun b o e => Heap.get?_push_of_some _ (Heap.get?_push_of_some _ e)
  have hget : ((hp.push (kdv_tup [v, u])).push (excO C hp.objs.size)).get? (hp.objs.size + 1) = some (excO C hp.objs.size) := by heap_get
  have hnx : K.lookup (hp.objs.size + 1) = none := by
    cases e : K.lookup (hp.objs.size + 1) with
    | none => rfl
    | some o =>
      have z : hp.get? (hp.objs.size + 1) = some o := X _ _ e
      exact absurd (Nat.lt_of_succ_lt (Heap.lt_size z)) (Nat.lt_irrefl _)
  refine call_own F.excBase_ValueError (fun X => refsVE_contains X bm hbm) (X _ _ hC) (looks_findIn X T.iC) (fun self => bind_fn X self T.tC) (one_size v u) ?_
  refine low_init (s := ⟨(hp.push (kdv_tup [v, u])).push (excO C hp.objs.size), g, dr, tk, os⟩) T (X.keeps k) (hlim.keeps k) hget hnx ?_ fun h' tk' dx ⟨k', hx, dn, dne, hns⟩ => ?_
  · show A.depth + 1 < recursionLimit
    exact hroom
  · have old : ∀ b o, hp.get? b = some o → h'.get? b = some o := fun b o e => k' b o (Nat.ne_of_lt (Nat.lt_succ_of_lt (Heap.lt_size e))) (k b o e)
    have z : hp.objs.size + 1 + 1 ≤ dx := by
      first
        | (simpa only [Heap.size_push] using dn)
        | exact dn
        | (have q := dn; rw [Heap.size_push, Heap.size_push] at q; exact q)
    exact ⟨rfl, hq h' tk' (hp.objs.size + 1) dx ⟨old, Nat.le_succ _, ⟨_, _, hx, rfl, rfl, rfl, rfl⟩, Nat.le_trans (Nat.le_trans (Nat.le_succ _) (Nat.le_succ _)) z, dne, hns⟩⟩
end
end LowW
end PySem
namespace RR
open PySem PySem.Spec PyProof.Rows L2
theorem relO_way {v u : V} {v' u' : Value} (r : RelV v v') (q : RelV u u') (f : Str) : RelO (List.lookup f [(("way" : Str), v), (("cut" : Str), u)]) (if f = "cut" then some u' else if f = "way" then some v' else none) := by
  by_cases hw : f = "way"
  · subst hw
    rw [if_neg (by decide), if_pos rfl, show List.lookup ("way" : Str) [(("way" : Str), v), (("cut" : Str), u)] = some v from by simp [List.lookup]]
    exact r
  · by_cases hc : f = "cut"
    · subst hc
      rw [if_pos rfl, show List.lookup ("cut" : Str) [(("way" : Str), v), (("cut" : Str), u)] = some u from rfl]
      exact q
    · rw [if_neg hc, if_neg hw]
      have q1 : (f == ("way" : Str)) = false := by simpa using hw
      have q2 : (f == ("cut" : Str)) = false := by simpa using hc
      rw [show List.lookup f [(("way" : Str), v), (("cut" : Str), u)] = none from by simp [List.lookup, q1, q2]]
      trivial
/-- a new error of C with the fields way and cut -/
def tMkW (C : Addr) (ta : TA) : TE := fun σ H Q => ta σ H fun vs H1 => ∃ v u, vs = [v, u] ∧ ∀ a dd, H1 dd = none → H1 a = none → dd ≠ a → Q (.ref a) (upd (upd H1 dd (.xd [(("way" : Str), v), (("cut" : Str), u)])) a (HeldX (.ref C) (some dd) a))
theorem pe_mkW {X : Cx} {C fI : Addr} {cn qn : Str} {a b : Expr} {ta : TA} {p pos : Pos} {k : Nat} (T : PySem.LowW.LowTxt X.K X.mg cn qn C fI) (hr : Room k X.A) (ha : PA X [a, b] ta) (hg : Gl X cn) (hdb : (cn == ("__debug__" : Str)) = false := by decide)
    (he : starEach (a :: [b]) X.env = (false, eval a X.env) :: starEach [b] X.env := by rfl) (hpl : (backTo pos (starEach [b] X.env)).any (·.1) = false := by rfl) : PE X (.Call (.Name cn p) [a, b] [] pos) (tMkW C ta) := by
  refine ⟨fun pins s σ H Q I h => wpAny_Call_Name_kw (ld_glob I hg T.gC (PySem.W.callWith_K (h₀ := X.base) I.ok.mod.kin T.kC (thn (ha.run pos pins s σ H _ I h) fun us s1 hh => ?_) he hpl) hdb)⟩
  obtain ⟨vs, H1, I1, r1, v, u, rfl, q1⟩ := hh
  refine ⟨I1.kIn, ?_⟩
  cases r1 with
  | cons rv rn =>
    rename_i v' _
    obtain ⟨u', rfl, ru⟩ := (show Vals [u] _ from rn).one
    show wpAny _ _ (call (.ref C) [v', u']) _ _ _
    have nl := I1.nolimit
    have room : X.A.depth + 1 < recursionLimit := by have := hr.dp; omega
    obtain ⟨hp, g, dr, tk, os⟩ := s1
    exact wpAny_call (PySem.LowW.low_made T I1.kIn nl room fun h' tk' e d M => made_val I1 M.keep M.new M.obj M.dbig M.dne M.ns (fun f => relO_way rv ru f) (q1 e d))
end RR
set_option maxHeartbeats 4000000
namespace RR
open PySem PySem.Spec PyProof.Rows L2
open LamX
/-! ### shapes of links, nets and the shut web; webs in the heap -/
inductive Shp where
  | link (n : Str)
  | net (ls : List Lk)
  | shut
  deriving DecidableEq
def linksOf : Shp → List Lk
  | .link n => [(n, 0, 1)]
  | .net ls => ls
  | .shut => []
def kindS : Shp → Str
  | .link _ => "link"
  | .net _ => "net"
  | .shut => "shut"
def netS (ls : List Lk) : Shp := if ls = [] then .shut else .net (ordL ls)
/-- what a web may be made of -/
def Sok : Shp → Prop
  | .link n => Nm n
  | .net ls => (∀ l ∈ ls, Lok l) ∧ ls.length < 64
  | .shut => True
def SqV (K : PySem.W.Frag) (H : Hp) (v : V) (xs : List V) : Prop := ∃ p, v = .ref p ∧ (SqL K H p xs ∨ SqT K H p xs)
def LinksT (H : Hp) (p : Addr) (ls : List Lk) : Prop := ∃ vs, H p = some (.tup vs) ∧ TLs H vs ls
theorem LinksT.st {H H' : Hp} (s : StT H H') {p : Addr} {ls : List Lk} (h : LinksT H p ls) : LinksT H' p ls := let ⟨vs, e, t⟩ := h; ⟨vs, s _ _ e, t.st s⟩
def ShapeV (aS : Addr) (H : Hp) (v : V) : Shp → Prop
  | .link n => ∃ q, v = .ref q ∧ H q = some (.tup [.str "link", .str n])
  | .net ls => ∃ q p, v = .ref q ∧ H q = some (.tup [.str "net", .ref p]) ∧ LinksT H p ls
  | .shut => v = .ref aS
/-- an instance of the class C: its shape, its links -/
structure WebAt (C aS : Addr) (H : Hp) (x : Addr) (sh : Shp) : Prop where
  at_ : ∃ dx v q, H x = some (.ins C dx [("shape", v), ("laid_links", .ref q)]) ∧ ShapeV aS H v sh ∧ LinksT H q (linksOf sh)
  ok : Sok sh
/-! shapes as data -/
def dS : Shp → PyData
  | .link n => .tuple [.str "link", .str n]
  | .net ls => .tuple [.str "net", .tuple (ls.map dL)]
  | .shut => .tuple [.str "shut"]
theorem nm_low {x : Str} (h : Nm x) : LowS x := h.tame.fits
theorem dL_lay {l : Lk} (h : Lok l) : (dL l).canLay0 = true := by
  show (PyData.canLay0 (.str l.1) && _) = true
  rw [(nm_low h.nm).lay]
  rfl
theorem dLs_lay : ∀ {ls : List Lk}, (∀ l ∈ ls, Lok l) → PyData.canLayAll0 (ls.map dL) = true
  | [], _ => rfl
  | l :: r, h => by
    show (PyData.canLay0 (dL l) && PyData.canLayAll0 (r.map dL)) = true
    rw [dL_lay (h l (.head _)), dLs_lay fun y hy => h y (.tail _ hy)]
    rfl
theorem dLs_depth : ∀ (ls : List Lk), PyData.depthAll (ls.map dL) ≤ 1
  | [] => Nat.zero_le _
  | l :: r => by
    show max (PyData.depth (dL l)) (PyData.depthAll (r.map dL)) ≤ 1
    have h1 : PyData.depth (dL l) = 1 := rfl
    have := dLs_depth r
    omega
/-! ### what is no link -/
def JV (K : PySem.W.Frag) (H : Hp) (v : V) (b : Bool) : Prop := (b = true ∧ ∃ i : Int, v = .int i ∧ 0 ≤ i ∧ i ≤ 99) ∨ (b = false ∧ ((∃ i : Int, v = .int i ∧ ¬ (0 ≤ i ∧ i ≤ 99)) ∨ IsI K H v false))
def OddL (K : PySem.W.Frag) (H : Hp) (v : V) : Prop := (∃ t, TyX K H v t ∧ PySem.W.kitOne K t (.type "tuple") = some false) ∨
  ∃ q xs, v = .ref q ∧ H q = some (.tup xs) ∧ (xs.length ≠ 3 ∨ ∃ a b c, xs = [a, b, c] ∧ (NotName K H a ∨ ((∃ n, NameV a n) ∧ ∃ b1 b2, JV K H b b1 ∧ JV K H c b2 ∧ (b1 && b2) = false)))
/-! ### promises of the program's defs -/
def spOrd (K : PySem.W.Frag) : Sp := fun vs H Q _ => ∃ v xs ls, vs = [v] ∧ SqV K H v xs ∧ TLs H xs ls ∧ ls.length < 64 ∧ ∀ p H', Same H H' → LinksT H' p (ordL ls) → Q (.ref p) H'
def spJoints (K : PySem.W.Frag) : Sp := fun vs H Q _ => ∃ v xs ls, vs = [v] ∧ SqV K H v xs ∧ TLs H xs ls ∧ ls.length < 64 ∧ ∀ p H', Same H H' → H' p = some (.lst ((jointsL ls).map V.int)) → Q (.ref p) H'
def spNetS (K : PySem.W.Frag) (aS : Addr) : Sp := fun vs H Q _ => ∃ v xs ls, vs = [v] ∧ SqV K H v xs ∧ TLs H xs ls ∧ ls.length < 64 ∧ ∀ u H', Same H H' → ShapeV aS H' u (netS ls) → Q u H'
def spLaid (aS : Addr) : Sp := fun vs H Q _ => ∃ v sh, vs = [v, .int 0, .int 1, .int 2] ∧ ShapeV aS H v sh ∧ (∀ ls, sh ≠ .net ls) ∧ ∀ r l xs H', Same H H' → H' r = some (.tup [.ref l, .int 2]) → H' l = some (.lst xs) → TLs H' xs (linksOf sh) → Q (.ref r) H'
def spLinksOf (aS : Addr) : Sp := fun vs H Q _ => ∃ v sh, vs = [v] ∧ ShapeV aS H v sh ∧ ∀ q H', Same H H' → LinksT H' q (linksOf sh) → Q (.ref q) H'
def spTextOf (aS : Addr) : Sp := fun vs H Q _ => ∃ v n, vs = [v] ∧ ShapeV aS H v (.link n) ∧ Q (.str n) H
def spIsLink (K : PySem.W.Frag) : Sp := fun vs H Q _ => ∃ v b, vs = [v] ∧ ((b = true ∧ ∃ l, TL H v l ∧ Lok l) ∨ (b = false ∧ OddL K H v)) ∧ ∀ H', Same H H' → Q (.bl b) H'
/-! ### promises of the class -/
def spWInit (C aS : Addr) : Sp := fun vs H Q _ => ∃ x dx v sh, vs = [.ref x, v] ∧ H x = some (.ins C dx []) ∧ ShapeV aS H v sh ∧ Sok sh ∧ ∀ H', (∀ b o, H b = some o → b ≠ x → H' b = some o) → WebAt C aS H' x sh → Q .non H'
def spWKind (C aS : Addr) : Sp := fun vs H Q _ => ∃ x sh, vs = [.ref x] ∧ WebAt C aS H x sh ∧ Q (.str (kindS sh)) H
def spWParts (C aS : Addr) : Sp := fun vs H Q _ => ∃ x sh, vs = [.ref x] ∧ WebAt C aS H x sh ∧ ∀ p H', Same H H' → H' p = some (.tup []) → Q (.ref p) H'
def spWLinks (C aS : Addr) : Sp := fun vs H Q _ => ∃ x sh, vs = [.ref x] ∧ WebAt C aS H x sh ∧ ∀ q, LinksT H q (linksOf sh) → Q (.ref q) H
def spWJoints (C aS : Addr) : Sp := fun vs H Q _ => ∃ x sh, vs = [.ref x] ∧ WebAt C aS H x sh ∧ ∀ p H', Same H H' → H' p = some (.tup ((jointsL (linksOf sh)).map V.int)) → Q (.ref p) H'
def spWNames (C aS : Addr) : Sp := fun vs H Q _ => ∃ x sh, vs = [.ref x] ∧ WebAt C aS H x sh ∧ ∀ p H', Same H H' → H' p = some (.tup ((namesL (linksOf sh)).map V.str)) → Q (.ref p) H'
def spWPlain (C aS : Addr) : Sp := fun vs H Q _ => ∃ x sh, vs = [.ref x] ∧ WebAt C aS H x sh ∧ ∀ H', Same H H' → Q (.bl (decide ((namesL (linksOf sh)).length = (linksOf sh).length))) H'
def spWLen (C aS : Addr) : Sp := fun vs H Q _ => ∃ x sh, vs = [.ref x] ∧ WebAt C aS H x sh ∧ Q (.int ((linksOf sh).length : Nat)) H
def spWAbs (C aS : Addr) : Sp := fun vs H Q _ => ∃ x sh, vs = [.ref x] ∧ WebAt C aS H x sh ∧ ∀ H', Same H H' → Q (.int ((namesL (linksOf sh)).length : Nat)) H'
def spWEq (C aS : Addr) : Sp := fun vs H Q _ => ∃ x y sh sh', vs = [.ref x, .ref y] ∧ WebAt C aS H x sh ∧ WebAt C aS H y sh' ∧ Q (.bl (decide (sh = sh'))) H
def spWStr (C aS : Addr) : Sp := fun vs H Q _ => ∃ x n, vs = [.ref x] ∧ WebAt C aS H x (.link n) ∧ Q (.str n) H
def spWNever (C aS : Addr) : Sp := fun vs H Q _ => vs = [] ∧ ∀ x H', Same H H' → WebAt C aS H' x .shut → Q (.ref x) H'
/-- what an error tells: one field -/
def wFld (D : Addr) (f : Str) (x : V) (H0 : Hp) : XK := fun cls d H' => ∃ dd, cls = .ref D ∧ d = some dd ∧ Same H0 H' ∧ H' dd = some (.xd [(f, x)])
def Fails (D : Addr) (f : Str) (x : V) (H : Hp) (E : XK) : Prop := ∀ d H', Same H H' → H' d = some (.xd [(f, x)]) → E (.ref D) (some d) H'
def spWLink (K : PySem.W.Frag) (C aS BN : Addr) : Sp := fun vs H Q E => ∃ v, vs = [v] ∧ ((∃ n, v = .str n ∧ Nm n ∧ ∀ x H', Same H H' → WebAt C aS H' x (.link n) → Q (.ref x) H') ∨ (NotName K H v ∧ Fails BN "name" v H E))
def NoSeq (K : PySem.W.Frag) (H : Hp) (v : V) : Prop := ∃ t, TyX K H v t ∧ PySem.W.kitAny K t [.type "list", .type "tuple"] = some false
def spWNet (K : PySem.W.Frag) (C aS BW TM : Addr) : Sp := fun vs H Q E => ∃ v, vs = [v] ∧ ((NoSeq K H v ∧ Fails BW "at" .non H E) ∨
  ∃ p xs, v = .ref p ∧ (H p = some (.lst xs) ∨ H p = some (.tup xs)) ∧ ((14 < xs.length ∧ xs.length < 1000 ∧ Fails TM "most" (.int 14) H E) ∨
    (xs.length ≤ 14 ∧ ((∃ ls, TLs H xs ls ∧ (∀ l ∈ ls, Lok l) ∧ ∀ x H', Same H H' → WebAt C aS H' x (netS ls) → Q (.ref x) H') ∨
      ∃ j w, xs[j]? = some w ∧ OddL K H w ∧ (∀ i u, i < j → xs[i]? = some u → ∃ l, TL H u l ∧ Lok l) ∧ Fails BW "at" (.int (j : Nat)) H E))))
end RR
set_option maxHeartbeats 4000000
namespace RR
open PySem PySem.Spec PyProof.Rows L2
open LamX
/-! ### webs of rows and bunches: what they are -/
inductive Sh where
  | link (n : Str)
  | net (ls : List Lk)
  | node (r : Bool) (ps : List Sh)
  | opn
  | shut
noncomputable instance : DecidableEq Sh := fun a b => Classical.propDecidable (a = b)
def kn (r : Bool) : Str := if r = true then "row" else "bunch"
def kindB : Sh → Str
  | .link _ => "link"
  | .net _ => "net"
  | .node r _ => kn r
  | .opn => "open"
  | .shut => "shut"
mutual
def dep : Sh → Nat
  | .link _ => 0
  | .net _ => 0
  | .node _ ps => depL ps + 1
  | .opn => 0
  | .shut => 0
def depL : List Sh → Nat
  | [] => 0
  | s :: r => max (dep s) (depL r)
end
theorem dep_mem : ∀ {ps : List Sh} {s : Sh}, s ∈ ps → dep s ≤ depL ps
  | [], _, h => nomatch h
  | p :: r, s, h => by
    rw [depL]
    rcases List.mem_cons.mp h with rfl | h
    · exact Nat.le_max_left _ _
    · exact Nat.le_trans (dep_mem h) (Nat.le_max_right _ _)
theorem depL_le {n : Nat} : ∀ {ps : List Sh}, (∀ s ∈ ps, dep s ≤ n) → depL ps ≤ n
  | [], _ => Nat.zero_le _
  | p :: r, h => by
    rw [depL]
    exact Nat.max_le.mpr ⟨h p (.head _), depL_le fun s hs => h s (.tail _ hs)⟩
/-- a promise about shapes by their depth -/
theorem sh_ind {P : Sh → Prop} (h : ∀ s, (∀ t, dep t < dep s → P t) → P s) : ∀ s, P s := fun s => by
  generalize e : dep s = n
  induction n using Nat.strongRecOn generalizing s with
  | _ n ih => exact h s fun t ht => ih (dep t) (by omega) t rfl
theorem dep_part {r : Bool} {ps : List Sh} {s : Sh} (h : s ∈ ps) : dep s < dep (.node r ps) := by
  rw [dep]
  exact Nat.lt_succ_of_le (dep_mem h)
/-! places -/
mutual
def siz : Sh → Nat
  | .link _ => 1
  | .net ls => ls.length
  | .node _ ps => sizL ps
  | .opn => 0
  | .shut => 0
def sizL : List Sh → Nat
  | [] => 0
  | s :: r => siz s + sizL r
end
theorem sizL_app : ∀ (a b : List Sh), sizL (a ++ b) = sizL a + sizL b
  | [], b => by rw [List.nil_append, sizL, Nat.zero_add]
  | s :: a, b => by rw [List.cons_append, sizL, sizL, sizL_app a b, Nat.add_assoc]
theorem siz_mem : ∀ {ps : List Sh} {s : Sh}, s ∈ ps → siz s ≤ sizL ps
  | [], _, h => nomatch h
  | p :: r, s, h => by
    rw [sizL]
    rcases List.mem_cons.mp h with rfl | h
    · omega
    · have := siz_mem h
      omega
/-! rows and bunches put together -/
def spoil (r : Bool) : Sh := if r = true then .shut else .opn
def idle (r : Bool) : Sh := if r = true then .opn else .shut
def innerOf (r : Bool) : Sh → List Sh
  | .node r' qs => if r' = r then qs else [.node r' qs]
  | s => [s]
def flat (r : Bool) : List Sh → List Sh
  | [] => []
  | p :: ps => innerOf r p ++ flat r ps
noncomputable def kept (r : Bool) (fs : List Sh) : List Sh := fs.filter fun s => decide (s ≠ idle r)
def pack (r : Bool) : List Sh → Sh
  | [] => idle r
  | [s] => s
  | k => .node r k
noncomputable def compS (r : Bool) (ps : List Sh) : Sh := if spoil r ∈ flat r ps then spoil r else pack r (kept r (flat r ps))
def netB (ls : List Lk) : Sh := if ls = [] then .shut else .net (ordL ls)
mutual
noncomputable def madeS : Sh → Sh
  | .net ls => netB ls
  | .node r ps => compS r (madeL ps)
  | .link n => .link n
  | .opn => .opn
  | .shut => .shut
noncomputable def madeL : List Sh → List Sh
  | [] => []
  | s :: r => madeS s :: madeL r
end
theorem madeL_map : ∀ ps : List Sh, madeL ps = ps.map madeS
  | [] => by rw [madeL, List.map_nil]
  | s :: r => by rw [madeL, madeL_map r, List.map_cons]
/-! what is made -/
/-- a part of a row or a bunch that is made -/
def Prt (r : Bool) (s : Sh) : Prop := s ≠ .opn ∧ s ≠ .shut ∧ ∀ qs, s ≠ .node r qs
mutual
def Nrm : Sh → Prop
  | .link n => Nm n
  | .net ls => ls ≠ [] ∧ (∀ l ∈ ls, Lok l) ∧ ordL ls = ls
  | .node r ps => 2 ≤ ps.length ∧ NrmL r ps
  | .opn => True
  | .shut => True
def NrmL (r : Bool) : List Sh → Prop
  | [] => True
  | s :: ss => Nrm s ∧ Prt r s ∧ NrmL r ss
end
theorem nrmL_iff {r : Bool} : ∀ {ps : List Sh}, NrmL r ps ↔ ∀ s ∈ ps, Nrm s ∧ Prt r s
  | [] => by rw [NrmL]; exact ⟨(fun _ s h => (nomatch h)), fun _ => trivial⟩
  | p :: ps => by
    rw [NrmL, nrmL_iff (ps := ps)]
    constructor
    · rintro ⟨a, b, c⟩ s h
      rcases List.mem_cons.mp h with rfl | h
      · exact ⟨a, b⟩
      · exact c s h
    · intro h
      exact ⟨(h p (.head _)).1, (h p (.head _)).2, fun s hs => h s (.tail _ hs)⟩
theorem nrm_node {r : Bool} {ps : List Sh} : Nrm (.node r ps) ↔ 2 ≤ ps.length ∧ ∀ s ∈ ps, Nrm s ∧ Prt r s := by rw [Nrm, nrmL_iff]
/-! a plan: links with names, nets of links -/
mutual
def Pln : Sh → Prop
  | .link n => Nm n
  | .net ls => ∀ l ∈ ls, Lok l
  | .node _ ps => PlnL ps
  | .opn => True
  | .shut => True
def PlnL : List Sh → Prop
  | [] => True
  | s :: ss => Pln s ∧ PlnL ss
end
theorem plnL_iff : ∀ {ps : List Sh}, PlnL ps ↔ ∀ s ∈ ps, Pln s
  | [] => by rw [PlnL]; exact ⟨(fun _ s h => (nomatch h)), fun _ => trivial⟩
  | p :: ps => by
    rw [PlnL, plnL_iff (ps := ps)]
    constructor
    · rintro ⟨a, c⟩ s h
      rcases List.mem_cons.mp h with rfl | h
      · exact a
      · exact c s h
    · intro h
      exact ⟨h p (.head _), fun s hs => h s (.tail _ hs)⟩
theorem nrm_pln : ∀ s, Nrm s → Pln s := sh_ind fun s ih h => by
  cases s with
  | link n => rw [Nrm] at h; rw [Pln]; exact h
  | net ls => rw [Nrm] at h; rw [Pln]; exact h.2.1
  | node r ps =>
    rw [nrm_node] at h
    rw [Pln, plnL_iff]
    exact fun t ht => ih t (dep_part ht) (h.2 t ht).1
  | opn => trivial
  | shut => trivial
/-! what comes of normal parts is normal -/
theorem netB_nrm {ls : List Lk} (h : ∀ l ∈ ls, Lok l) : Nrm (netB ls) := by
  unfold netB
  split
  · trivial
  · rename_i ne
    rw [Nrm]
    refine ⟨fun z => ne (List.length_eq_zero_iff.mp (by rw [← ordL_len, z]; rfl)), Lok.ord h, ?_⟩
    refine (ordL_is ?_ (ordL_pw ls)).symm
    have e : (ordL ls).map norm = ordL ls := by
      conv => rhs; rw [← List.map_id (ordL ls)]
      refine List.map_congr_left fun l hl => ?_
      obtain ⟨m, _, e⟩ := ordL_mem.mp hl
      rw [← e, norm_norm]
      rfl
    rw [e]
/-! rows in rows, told at once -/
/-! no more places than before -/
theorem ordL_size (ls : List Lk) : siz (netB ls) = ls.length := by
  unfold netB
  split
  · rename_i e
    rw [e]
    rfl
  · rw [siz, ordL_len]
/-! how deep -/
end RR
set_option maxHeartbeats 4000000
namespace RR
open PySem PySem.Spec PyProof.Rows L2
/-! ### walks over a list or a tuple alike -/
theorem rd_same {H H' : Hp} {a : Addr} {u : HO} (s : Same H H') (h : Rd H a u) : Rd H' a u := by
  rcases h with h | ⟨o, h⟩
  · exact .inl (s _ _ h)
  · exact .inr ⟨o, s _ _ h⟩
theorem sqL_st {K : PySem.W.Frag} {H H' : Hp} {a : Addr} {xs : List V} (s : Same H H') (h : SqL K H a xs) : SqL K H' a xs := h.imp (rd_same s) id
theorem sqT_st {K : PySem.W.Frag} {H H' : Hp} {a : Addr} {xs : List V} (s : Same H H') (h : SqT K H a xs) : SqT K H' a xs := h.imp (rd_same s) id
theorem SqV.same {K : PySem.W.Frag} {H H' : Hp} {v : V} {xs : List V} (h : SqV K H v xs) (s : Same H H') : SqV K H' v xs := by
  obtain ⟨p, e, h⟩ := h
  exact ⟨p, e, h.imp (sqL_st s) (sqT_st s)⟩
theorem seq_iter {K : PySem.W.Frag} {i : Nat} {p : Addr} {xs : List V} {σ : L2.St} {H : Hp} {R : It → Hp → Prop} (e : σ[i]? = some (some (.ref p))) (hp : SqL K H p xs ∨ SqT K H p xs)
    (k : ∀ J G, Walk J xs.length G (YAt xs) → (∀ H', Same H H' → G H') → R J H) : iOr (iList K (tVar i)) (iTup K (tVar i)) σ H R := by
  rcases hp with h | h
  · exact .inl ⟨_, e, p, rfl, ⟨_, h⟩, k _ _ walk_list fun H' s => sqL_st s h⟩
  · exact .inr ⟨_, e, p, rfl, ⟨_, h⟩, k _ _ walk_tup fun H' s => sqT_st s h⟩
theorem seq_enum {K : PySem.W.Frag} {i : Nat} {p : Addr} {xs : List V} {σ : L2.St} {H : Hp} {R : It → Hp → Prop} (e : σ[i]? = some (some (.ref p))) (hp : SqL K H p xs ∨ SqT K H p xs)
    (k : ∀ J G, Walk J xs.length G (YPair (fun i => some (.int (i : Nat))) fun i => xs[i]?) → (∀ H', Same H H' → G H') → R J H) : iOr (iEnum K (tCons (tVar i) tNil)) (iEnumT K (tCons (tVar i) tNil)) σ H R := by
  rcases hp with h | h
  · exact .inl ⟨_, e, p, _, rfl, h, k _ _ walk_enum fun H' s => sqL_st s h⟩
  · exact .inr ⟨_, e, p, _, rfl, h, k _ _ walk_enumT fun H' s => sqT_st s h⟩
/-! ### the rows that are sorted -/
def rowsK : Nat → List Lk → List (List Key)
  | _, [] => []
  | n, l :: r => rowK l (n : Int) :: rowsK (n + 1) r
theorem rowsK_len : ∀ (n : Nat) (ls : List Lk), (rowsK n ls).length = ls.length
  | _, [] => rfl
  | n, _ :: r => congrArg (· + 1) (rowsK_len (n + 1) r)
theorem rowsK_at : ∀ (n : Nat) (ls : List Lk) (i : Nat) (l : Lk), ls[i]? = some l → (rowsK n ls)[i]? = some (rowK l ((n + i : Nat) : Int))
  | _, [], _, _, h => by simp at h
  | n, m :: r, 0, l, h => by
    cases h
    rfl
  | n, m :: r, i + 1, l, h => by
    have z := rowsK_at (n + 1) r i l h
    rw [show n + 1 + i = n + (i + 1) from by omega] at z
    exact z
theorem rowsK_of : ∀ (n : Nat) (ls : List Lk) {k : List Key}, k ∈ rowsK n ls → ∃ l ∈ ls, ∃ i : Nat, n ≤ i ∧ k = rowK l (i : Int)
  | _, [], _, h => nomatch h
  | n, l :: r, k, h => by
    rcases List.mem_cons.mp h with rfl | h
    · exact ⟨l, .head _, n, Nat.le_refl _, rfl⟩
    · obtain ⟨m, hm, i, hi, e⟩ := rowsK_of (n + 1) r h
      exact ⟨m, .tail _ hm, i, by omega, e⟩
theorem rowsK_one : ∀ (n : Nat) (ls : List Lk), (rowsK n ls).Nodup
  | _, [] => .nil
  | n, l :: r => by
    refine List.nodup_cons.mpr ⟨fun h => ?_, rowsK_one (n + 1) r⟩
    obtain ⟨m, _, i, hi, e⟩ := rowsK_of (n + 1) r h
    have := (rowK_inj e).2
    omega
def toLk : List Key → Lk
  | [.inr n, .inl u, .inl v, _] => (n, u, v)
  | _ => (Str.empty, 0, 0)
theorem toLk_row (l : Lk) (i : Int) : toLk (rowK l i) = l := rfl
theorem rowsK_back : ∀ (n : Nat) (ls : List Lk), (rowsK n ls).map toLk = ls
  | _, [] => rfl
  | n, l :: r => by
    show toLk (rowK l n) :: (rowsK (n + 1) r).map toLk = l :: r
    rw [rowsK_back (n + 1) r, toLk_row]
theorem rows_ord {ls : List Lk} {ks L L' : List (Addr × List Key)} (hk : (ks.map fun e => e.2) = rowsK 0 (ls.map norm)) (pm : L.Perm ks) (pm' : L'.Perm L) (pw : L'.Pairwise fun x y => leK x.2 y.2) :
    (L'.map fun e => toLk e.2) = ordL ls ∧ ∀ e ∈ L', ∃ l i, e.2 = rowK l i := by
  have each : ∀ e ∈ L', ∃ l i, e.2 = rowK l i := fun e he => by
    have m : e.2 ∈ rowsK 0 (ls.map norm) := by
      rw [← hk]
      exact List.mem_map_of_mem ((pm'.trans pm).mem_iff.mp he)
    obtain ⟨l, _, i, _, e⟩ := rowsK_of _ _ m
    exact ⟨l, i, e⟩
  refine ⟨ordL_is ?_ (pw_map pw fun a ha b hb r => ?_), each⟩
  · have z := (pm'.trans pm).map fun e => toLk e.2
    have e : (ks.map fun e => toLk e.2) = ls.map norm := by
      rw [← rowsK_back 0 (ls.map norm), ← hk, List.map_map]
      rfl
    rwa [e] at z
  · obtain ⟨l, i, e1⟩ := each a ha
    obtain ⟨m, j, e2⟩ := each b hb
    rw [e1, e2] at r ⊢
    exact rowK_le r
theorem pair_zip {α β : Type} {F : α → β → Prop} : ∀ {xs : List α} {ys : List β}, Paired F xs ys → ((xs.zip ys).map fun e => e.1) = xs ∧ ((xs.zip ys).map fun e => e.2) = ys ∧ ∀ e ∈ xs.zip ys, F e.1 e.2
  | _, _, .nil => ⟨rfl, rfl, fun e h => nomatch h⟩
  | x :: xs, y :: ys, .cons f t => by
    obtain ⟨h1, h2, h3⟩ := pair_zip t
    refine ⟨congrArg (x :: ·) h1, congrArg (y :: ·) h2, fun e he => ?_⟩
    rcases List.mem_cons.mp he with rfl | he
    · exact f
    · exact h3 e he
theorem kitAny_lt {K : PySem.W.Frag} : PySem.W.kitAny K (.type "list") [.type "list", .type "tuple"] = some true ∧ PySem.W.kitAny K (.type "tuple") [.type "list", .type "tuple"] = some true := ⟨by rfl, by rfl⟩
end RR
set_option maxHeartbeats 4000000
namespace RR
open PySem PySem.Spec PyProof.Rows L2
end RR
set_option maxHeartbeats 4000000
namespace RR
open PySem PySem.Spec PyProof.Rows L2
/-! ### words that are drawn -/
section
variable {X : Cx}
/-- a text times 0 or 1 -/
def rMulS : R2 := fun x y H Q => ∃ z n, x = .str z ∧ y = .int n ∧ (n = 0 ∨ n = 1) ∧ z.length ≤ sizeLine ∧ Q (.str (if n = 1 then z else Str.empty)) H
end
def Letters (x : Str) : Prop := ∀ c ∈ x.cps.toList, 97 ≤ c ∧ c ≤ 122
def abcS : Str := "abcdefghijklmnopqrstuvwxyz"
/-- a word: a letter put into a stem -/
def wordA (z : Str) (k : Nat) (c : Nat) : Str := cutS z none (some (k : Int)) ++ ⟨#[c]⟩ ++ cutS z (some (k : Int)) none
/-- kept words get a letter more -/
def wordB (x : Str) : Str := x ++ (if inV (.str x) [.str "open", .str "shut", .str "net"] = true then Str.ofString "q" else Str.empty)
/-! ### promises -/
def spPickS : Sp := fun vs H Q _ => ∃ p c ns a g z, vs = [.ref p, .str z] ∧ PenAt H p c ns a g ∧ 0 < z.length ∧ z.length < 1000 ∧ ∀ ch a' g' H', H' p = some (pen c a' g') → Keep p H H' → ch ∈ z.cps.toList → a ≤ a' → a' ≤ a + 1 → Q (.str ⟨#[ch]⟩) H'
/-- the list of words at l -/
structure WdsAt (H : Hp) (l : Addr) (ws : List Str) : Prop where
  at_ : H l = some (.lst (ws.map V.str))
  ok : ∀ w ∈ ws, Nm w
  lo : 1 ≤ ws.length
  hi : ws.length ≤ 5
def spWordsL : Sp := fun vs H Q _ => ∃ p c ns a g m, vs = [.ref p, .int m] ∧ PenAt H p c ns a g ∧ a ≤ 90000 ∧ 1 ≤ m ∧ m ≤ 5 ∧
  ∀ l ws a' g' H', H' p = some (pen c a' g') → Keep p H H' → H l = none → WdsAt H' l ws → a ≤ a' → a' ≤ a + 20 → Q (.ref l) H'
def spJointsL : Sp := fun vs H Q _ => ∃ p c ns a g, vs = [.ref p] ∧ PenAt H p c ns a g ∧ a ≤ 95000 ∧
  ∀ l (js : List Int) a' g' H', H' p = some (pen c a' g') → Keep p H H' → H l = none → H' l = some (.lst (js.map V.int)) → (∀ j ∈ js, 0 ≤ j ∧ j ≤ 99) → 2 ≤ js.length → js.length ≤ 8 → a ≤ a' → a' ≤ a + 1 → Q (.ref l) H'
/-- the list of links at l -/
structure LksAt (H : Hp) (l : Addr) (ls : List Lk) : Prop where
  at_ : ∃ vs, H l = some (.lst vs) ∧ TLs H vs ls
  ok : ∀ k ∈ ls, Lok k
  hi : ls.length ≤ 14
def spDrawnL : Sp := fun vs H Q _ => ∃ p c ns a g l ws, vs = [.ref p, .ref l, .int 14] ∧ PenAt H p c ns a g ∧ a ≤ 90000 ∧ WdsAt H l ws ∧
  ∀ r ls a' g' H', H' p = some (pen c a' g') → Keep p H H' → H r = none → LksAt H' r ls → a ≤ a' → a' ≤ a + 80 → Q (.ref r) H'
theorem keep_none {p : Addr} {H H1 : Hp} (k : Keep p H H1) {D : Addr} (n : H1 D = none) (ne : D ≠ p) : H D = none := by
  cases e : H D with
  | none => rfl
  | some o =>
    have := k _ _ e ne
    rw [n] at this
    cases this
theorem Keep.mut {p : Addr} {H H1 : Hp} (k : Keep p H H1) {D : Addr} (n : H D = none) (o : HO) : Keep p H (upd H1 D o) := fun b u e ne => hp_mut (k b u e ne) fun z => by rw [z, n] at e; cases e
theorem PenAt.mut {H : Hp} {p c : Addr} {ns : List Int} {a g : Int} (W : PenAt H p c ns a g) {D : Addr} (n1 : D ≠ p) (n2 : D ≠ c) (o : HO) : PenAt (upd H D o) p c ns a g := ⟨hp_mut W.pn n1.symm, hp_mut W.cs n2.symm, W.la, W.lb, W.ln⟩
def spRowsL : Sp := fun vs H Q _ => ∃ l ls, vs = [.ref l] ∧ LksAt H l ls ∧ ∀ r zs H', Same H H' → H r = none → H' r = some (.lst zs) → TLs H' zs (ordL ls) → Q (.ref r) H'
theorem StT.pen {p c : Addr} {H H' : Hp} {ns : List Int} {a g : Int} (W : PenAt H p c ns a g) (k : Keep p H H') : StT H H' := .keep k W.pn (fun _ z => by cases z)
/-! ### errors of one field, and what is heard of them -/
def ErrW (BN BW TM C : Addr) (f w : Str) : Prop := (C = BN ∧ f = "name" ∧ w = "name") ∨ (C = BW ∧ f = "at" ∧ w = "web") ∨ (C = TM ∧ f = "most" ∧ w = "many")
def spErr1 (BN BW TM : Addr) : Sp := fun vs H Q _ => ∃ a C dd f w x, vs = [.ref a] ∧ ErrW BN BW TM C f w ∧ H a = some (HeldX (.ref C) (some dd) a) ∧ H dd = some (.xd [(f, x)]) ∧ ∀ q H2, Same H H2 → H2 q = some (.tup [.str w, x]) → Q (.ref q) H2
def TTw (BN BW TM : Addr) : (XK → Hp → VK → Prop) → Hp → VK → Prop := fun tl H Q => ∀ H0, Same H H0 → ∃ (E' : XK) (Q' : VK), tl E' H0 Q' ∧ (∀ v H1, Q' v H1 → ∀ q H2, Same H1 H2 → H2 q = some (.lst [v]) → Q (.ref q) H2) ∧
  ∀ cls d H1, E' cls d H1 → ∃ C f w x dd, ErrW BN BW TM C f w ∧ cls = .ref C ∧ d = some dd ∧ H1 dd = some (.xd [(f, x)]) ∧ ∀ q H2, Same H1 H2 → H2 q = some (.tup [.str w, x]) → Q (.ref q) H2
end RR
set_option maxHeartbeats 4000000
namespace RR
open PySem PySem.Spec PyProof.Rows L2
/-! ### errors told apart -/
/-- what isinstance says of the i-th class of cs, W the base of them all -/
structure MarkOf (K : PySem.W.Frag) (D : Addr) (i : Nat) (cs : List Addr) (W : Addr) : Prop where
  ex : ExcC K D
  ks : ∀ (j : Nat) (C : Addr), cs[j]? = some C → PySem.W.kitOne K (.ref D) (.ref C) = some (decide (i = j))
  we : PySem.W.kitOne K (.ref D) (.ref W) = some true
  ve : PySem.W.kitOne K (.ref D) (.type "ValueError") = some true
/-- an error of the k-th class -/
def ErrK (K : PySem.W.Frag) (cs : List Addr) (W : Addr) (H : Hp) (a : Addr) (k : Nat) : Prop := ∃ D d, MarkOf K D k cs W ∧ H a = some (HeldX (.ref D) d a) ∧ (d = none ∨ ∃ dd fs, d = some dd ∧ H dd = some (.xd fs))
/-- one with the fields fs -/
def ErrF (K : PySem.W.Frag) (cs : List Addr) (W : Addr) (H : Hp) (a : Addr) (k : Nat) (fs : List (Str × V)) : Prop :=
  ∃ D dd, MarkOf K D k cs W ∧ H a = some (HeldX (.ref D) (some dd) a) ∧ H dd = some (.xd fs) ∧ ∀ f v, List.lookup f fs = some v → PySem.W.findIn K (.ref D) f = some none
section
variable {K : PySem.W.Frag} {cs : List Addr} {W : Addr} {H H' : Hp} {a : Addr} {k : Nat} {fs : List (Str × V)}
end
/-! ### data, kept -/
theorem sqT_same {K : PySem.W.Frag} {H H' : Hp} {a : Addr} {xs : List V} (h : SqT K H a xs) (s : Same H H') : SqT K H' a xs := by
  rcases h with (h | ⟨o, h⟩) | h
  · exact .inl (.inl (s _ _ h))
  · exact .inl (.inr ⟨o, s _ _ h⟩)
  · exact .inr h
mutual
theorem Dq.same {K : PySem.W.Frag} {H H' : Hp} (s : Same H H') : ∀ {d : PyData} {v : V}, Dq K H v d → Dq K H' v d
  | _, _, .non => .non
  | _, _, .bl b => .bl b
  | _, _, .int i => .int i
  | _, _, .str x => .str x
  | _, _, .lst m e h => .lst m (s _ _ e) (DqAll.same s h)
  | _, _, .tup e h => .tup (sqT_same e s) (DqAll.same s h)
  | _, _, .dic e h => .dic (s _ _ e) (DqKV.same s h)
theorem DqAll.same {K : PySem.W.Frag} {H H' : Hp} (s : Same H H') : ∀ {ds : List PyData} {vs : List V}, DqAll K H vs ds → DqAll K H' vs ds
  | _, _, .nil => .nil
  | _, _, .cons h t => .cons (Dq.same s h) (DqAll.same s t)
theorem DqKV.same {K : PySem.W.Frag} {H H' : Hp} (s : Same H H') : ∀ {es : List (PyData × PyData)} {kvs : List (Key × V)}, DqKV K H kvs es → DqKV K H' kvs es
  | _, _, .nil => .nil
  | _, _, .cons h t => .cons (Dq.same s h) (DqKV.same s t)
end
inductive ShowsAllQ (n m : Nat) : List PyData → Prop
  | nil : ShowsAllQ n m []
  | cons {d : PyData} {ds : List PyData} : ShowsQ n m d → ShowsAllQ n m ds → ShowsAllQ n m (d :: ds)
theorem ShowsAllQ.all {n m : Nat} : ∀ {ds : List PyData}, ShowsAllQ n m ds → PyData.showableAll ds = true ∧ PyData.depthAll ds ≤ m ∧ ((PyData.shownAll ds).map (·.length)).sum ≤ ds.length * n ∧ (PyData.shownAll ds).length = ds.length
  | _, .nil => ⟨rfl, Nat.zero_le _, Nat.zero_le _, rfl⟩
  | _, .cons (d := d) (ds := ds) h t => by
    obtain ⟨a, c, e, f⟩ := t.all
    refine ⟨?_, ?_, ?_, ?_⟩
    · show (d.showable && PyData.showableAll ds) = true
      rw [h.sh, a]; rfl
    · show max d.depth (PyData.depthAll ds) ≤ m
      have := h.dp
      omega
    · show d.shown.length + ((PyData.shownAll ds).map (·.length)).sum ≤ (ds.length + 1) * n
      have := h.ln
      rw [Nat.add_mul]
      omega
    · show (PyData.shownAll ds).length + 1 = ds.length + 1
      rw [f]
theorem showsQ_list {n m k l : Nat} {ds : List PyData} (h : ShowsAllQ n m ds) (hl : ds.length * n + 2 * ds.length + 3 ≤ k) (hm : m + 1 ≤ l) : ShowsQ k l (.list ds) := by
  obtain ⟨a, c, e, f⟩ := h.all
  refine ⟨a, ?_, ?_⟩
  · show PyData.depthAll ds + 1 ≤ l
    omega
  · show (listText (PyData.shownAll ds)).length ≤ k
    have := listText_len_le (PyData.shownAll ds)
    rw [f] at this
    omega
/-- a drawn value, apart from the pen -/
def Val (K : PySem.W.Frag) (H : Hp) (v : V) : Prop := ∃ d, Dq K H v d ∧ ShowsQ 100 3 d
/-! ### promises of the law's defs -/
def marksL (i : Nat) : List V := (List.range 18).map fun j => .bl (decide (i = j))
def spMarks (K : PySem.W.Frag) (cs : List Addr) (W : Addr) : Sp := fun vs H Q _ => ∃ a i, vs = [.ref a] ∧ ErrK K cs W H a i ∧ ∀ q H', Same H H' → H' q = some (.lst (marksL i)) → Q (.ref q) H'
def spAloneE (K : PySem.W.Frag) (cs : List Addr) (W : Addr) : Sp := fun vs H Q _ => ∃ (a : Addr) (i : Nat), vs = [.ref a, .int (i : Int)] ∧ i < 18 ∧ ErrK K cs W H a i ∧ ∀ H', Same H H' → Q (.bl true) H'
def spValue (K : PySem.W.Frag) : Sp := fun vs H Q _ => ∃ p c ns a g, vs = [.ref p] ∧ PenAt H p c ns a g ∧ a ≤ 99000 ∧ ∀ v a' g' H', H' p = some (pen c a' g') → Keep p H H' → Val K (delH H' p) v → a ≤ a' → a' ≤ a + 1 → Q v H'
def spBare : Sp := fun vs H Q _ => vs = [] ∧ ∀ H', Same H H' → Q (.bl true) H'
def spRightX (K : PySem.W.Frag) : Sp := fun vs H Q _ => ∃ v w, vs = [v, w] ∧ Val K H v ∧ Val K H w ∧ ∀ H', Same H H' → Q (.bl true) H'
def spLawN (K : PySem.W.Frag) : Sp := fun vs H Q _ => ∃ (a : Addr) (ns : List Int), vs = [.ref a] ∧ SqL K H a (ns.map V.int) ∧ ns.length ≤ 63 ∧ ∀ H', Q (.bl true) H'
end RR
set_option maxHeartbeats 4000000
namespace RR
open PySem PySem.Spec PyProof.Rows L2
open LamX
/-! ### repr of any such data -/
section
variable {X : Cx}
def rReprA (K : PySem.W.Frag) (n : Nat) : List V → Hp → VK → Prop := fun xs H Q => ∃ a d, xs = [.ref a] ∧ Dq K H (.ref a) d ∧ ShowsQ n 20 d ∧ Q (.str d.shown) H
end
theorem showsQ_tup {n m k l : Nat} {ds : List PyData} (h : ShowsAllQ n m ds) (hl : ds.length * n + 2 * ds.length + 3 ≤ k) (hm : m + 1 ≤ l) : ShowsQ k l (.tuple ds) := by
  obtain ⟨a, c, e, f⟩ := h.all
  refine ⟨a, ?_, ?_⟩
  · show PyData.depthAll ds + 1 ≤ l
    omega
  · show (tupleText (PyData.shownAll ds)).length ≤ k
    have := tupleText_len_le (PyData.shownAll ds)
    rw [f] at this
    omega
theorem shQ_str {x : Str} {n m : Nat} (p : LowS x) (h : 10 * x.length + 2 ≤ n) : ShowsQ n m (.str x) := ⟨rfl, Nat.zero_le _, Nat.le_trans (PySem.StrLaws.reprText_len x p.plain) h⟩
theorem shQ_int {i : Int} {n m : Nat} (p : Sm 1900 i) (h : 1921 ≤ n) : ShowsQ n m (.int i) := by
  obtain ⟨a, b, c, d⟩ := shows_int (n := n) (m := m) p h
  exact ⟨a, c, d⟩
theorem dq_strs {K : PySem.W.Frag} {H : Hp} : ∀ xs : List Str, DqAll K H (xs.map V.str) (xs.map PyData.str)
  | [] => .nil
  | x :: r => .cons (.str x) (dq_strs r)
/-! ### under what only lays code -/
theorem sqT_ext {K : PySem.W.Frag} {H H' : Hp} {a : Addr} {xs : List V} (s : ExtN H H') (h : SqT K H a xs) : SqT K H' a xs := by
  rcases h with (h | ⟨o, h⟩) | h
  · exact .inl (.inl (s _ _ h fun _ z => by cases z))
  · exact .inl (.inr ⟨o, s _ _ h fun _ z => by cases z⟩)
  · exact .inr h
mutual
theorem Dq.ext {K : PySem.W.Frag} {H H' : Hp} (s : ExtN H H') : ∀ {d : PyData} {v : V}, Dq K H v d → Dq K H' v d
  | _, _, .non => .non
  | _, _, .bl b => .bl b
  | _, _, .int i => .int i
  | _, _, .str x => .str x
  | _, _, .lst m e h => .lst m (s _ _ e fun _ z => by cases z) (DqAll.ext s h)
  | _, _, .tup e h => .tup (sqT_ext s e) (DqAll.ext s h)
  | _, _, .dic e h => .dic (s _ _ e fun _ z => by cases z) (DqKV.ext s h)
theorem DqAll.ext {K : PySem.W.Frag} {H H' : Hp} (s : ExtN H H') : ∀ {ds : List PyData} {vs : List V}, DqAll K H vs ds → DqAll K H' vs ds
  | _, _, .nil => .nil
  | _, _, .cons h t => .cons (Dq.ext s h) (DqAll.ext s t)
theorem DqKV.ext {K : PySem.W.Frag} {H H' : Hp} (s : ExtN H H') : ∀ {es : List (PyData × PyData)} {kvs : List (Key × V)}, DqKV K H kvs es → DqKV K H' kvs es
  | _, _, .nil => .nil
  | _, _, .cons h t => .cons (Dq.ext s h) (DqKV.ext s t)
end
/-- a value that is no name, and may be shown -/
def OddN (K : PySem.W.Frag) (H : Hp) (v : V) : Prop := NotName K H v ∧ ∃ d, Dq K H v d ∧ ShowsQ 4000 3 d
/-- all but the pen and the tables stay -/
def KeepN (p : Addr) (H H' : Hp) : Prop := ∀ b o, H b = some o → b ≠ p → (∀ ps, o ≠ .tbl ps) → H' b = some o
/-! ### promises -/
def spLinkR (TB : List (Addr × Str)) : Sp := fun vs H Q _ => ∃ p c ns a g x, vs = [.ref p, .str x] ∧ PenAt H p c ns a g ∧ a ≤ 95000 ∧ Nm x ∧ Tabs TB H ∧ ∀ a' g' H', PenAt H' p c ns a' g' → KeepN p H H' → Tabs TB H' → a ≤ a' → a' ≤ a + 1 → Q (.bl true) H'
def spNetR (TB : List (Addr × Str)) : Sp := fun vs H Q _ => ∃ p c ns a g l ls, vs = [.ref p, .ref l] ∧ PenAt H p c ns a g ∧ a ≤ 95000 ∧ LksAt H l ls ∧ ∀ a' g' H', H' p = some (pen c a' g') → Keep p H H' → a ≤ a' → a' ≤ a + 1 → Q (.bl true) H'
def spRefR (TB : List (Addr × Str)) : Sp := fun vs H Q _ => ∃ p c ns a g l ls x, vs = [.ref p, .ref l, .str x] ∧ PenAt H p c ns a g ∧ a ≤ 95000 ∧ LksAt H l ls ∧ ls.length ≤ 13 ∧ Nm x ∧ Tabs TB H ∧ ∀ a' g' H', PenAt H' p c ns a' g' → KeepN p H H' → Tabs TB H' → a ≤ a' → a' ≤ a + 5 → Q (.bl true) H'
end RR
set_option maxHeartbeats 4000000
namespace RR
open PySem PySem.Spec PyProof.Rows L2
open LamX
/-! ### how webs and plans of webs lie in the heap -/
/-- t: parts and links lie in tuples, the open and the shut one at two addresses; else in lists, in tuples of their own -/
inductive Frm where
  | pr (aO aS : Addr)
  | pl
def Frm.con : Frm → List V → HO
  | .pr _ _, vs => .tup vs
  | .pl, vs => .lst vs
def Frm.unit : Frm → Hp → V → Bool → Prop
  | .pr aO aS, _, v, b => v = .ref (if b = true then aO else aS)
  | .pl, H, v, b => ∃ q, v = .ref q ∧ H q = some (.tup [.str (if b = true then "open" else "shut")])
mutual
def ShV (F : Frm) (H : Hp) : Sh → V → Prop
  | .link n, v => ∃ q, v = .ref q ∧ H q = some (.tup [.str "link", .str n])
  | .net ls, v => ∃ q p vs, v = .ref q ∧ H q = some (.tup [.str "net", .ref p]) ∧ H p = some (F.con vs) ∧ TLs H vs ls
  | .node r ps, v => ∃ q p vs, v = .ref q ∧ H q = some (.tup [.str (kn r), .ref p]) ∧ H p = some (F.con vs) ∧ ShVs F H ps vs
  | .opn, v => F.unit H v true
  | .shut, v => F.unit H v false
def ShVs (F : Frm) (H : Hp) : List Sh → List V → Prop
  | [], vs => vs = []
  | s :: ss, vs => ∃ v r, vs = v :: r ∧ ShV F H s v ∧ ShVs F H ss r
end
theorem shVs_nil {F : Frm} {H : Hp} {vs : List V} : ShVs F H [] vs ↔ vs = [] := by rw [ShVs]
theorem shVs_len {F : Frm} {H : Hp} : ∀ {ss : List Sh} {vs : List V}, ShVs F H ss vs → vs.length = ss.length
  | [], _, h => by rw [shVs_nil] at h; rw [h]; rfl
  | s :: ss, _, h => by
    rw [ShVs] at h
    obtain ⟨v, r, rfl, _, t⟩ := h
    rw [List.length_cons, List.length_cons, shVs_len t]
theorem shVs_at {F : Frm} {H : Hp} : ∀ {ss : List Sh} {vs : List V} {i : Nat} {v : V}, ShVs F H ss vs → vs[i]? = some v → ∃ s, ss[i]? = some s ∧ ShV F H s v
  | [], _, i, v, h, e => by rw [shVs_nil] at h; rw [h] at e; simp at e
  | s :: ss, _, i, v, h, e => by
    rw [ShVs] at h
    obtain ⟨u, r, rfl, hu, t⟩ := h
    cases i with
    | zero => cases e; exact ⟨s, rfl, hu⟩
    | succ i => exact shVs_at (i := i) t e
/-- every shape is an object -/
theorem shV_ref {F : Frm} {H : Hp} {s : Sh} {v : V} (h : ShV F H s v) : ∃ q, v = .ref q := by
  cases s with
  | link n => rw [ShV] at h; exact ⟨_, h.choose_spec.1⟩
  | net ls => rw [ShV] at h; obtain ⟨q, p, vs, e, _⟩ := h; exact ⟨q, e⟩
  | node r ps => rw [ShV] at h; obtain ⟨q, p, vs, e, _⟩ := h; exact ⟨q, e⟩
  | opn =>
    rw [ShV] at h
    cases F with
    | pr aO aS => exact ⟨_, h⟩
    | pl => exact ⟨_, h.choose_spec.1⟩
  | shut =>
    rw [ShV] at h
    cases F with
    | pr aO aS => exact ⟨_, h⟩
    | pl => exact ⟨_, h.choose_spec.1⟩
theorem shVs_refs {F : Frm} {H : Hp} : ∀ {ss : List Sh} {vs : List V}, ShVs F H ss vs → ∀ v ∈ vs, ∃ q, v = .ref q
  | [], _, h, v, m => by rw [shVs_nil] at h; rw [h] at m; exact nomatch m
  | s :: ss, _, h, v, m => by
    rw [ShVs] at h
    obtain ⟨u, r, rfl, hu, t⟩ := h
    rcases List.mem_cons.mp m with rfl | m
    · exact shV_ref hu
    · exact shVs_refs t v m
theorem tls_refs {H : Hp} : ∀ {vs : List V} {ls : List Lk}, TLs H vs ls → ∀ v ∈ vs, ∃ q, v = .ref q
  | _, _, .nil, v, m => nomatch m
  | _, _, .cons h t, v, m => by
    rcases List.mem_cons.mp m with rfl | m
    · exact ⟨_, h.choose_spec.1⟩
    · exact tls_refs t v m
/-- what shapes are made of stays: tuples, and lists of objects -/
def StS (H H' : Hp) : Prop := StT H H' ∧ ∀ a xs, H a = some (.lst xs) → (∀ x ∈ xs, ∃ q, x = .ref q) → H' a = some (.lst xs)
theorem StS.same {H H' : Hp} (s : Same H H') : StS H H' := ⟨.same s, fun a xs e _ => s a _ e⟩
/-- what shapes of a form are made of stays -/
def StF (F : Frm) (H H' : Hp) : Prop := match F with
  | .pr _ _ => StT H H'
  | .pl => StS H H'
theorem StS.f {F : Frm} {H H' : Hp} (s : StS H H') : StF F H H' := by
  cases F
  · exact s.1
  · exact s
theorem StF.tup {F : Frm} {H H' : Hp} (s : StF F H H') : StT H H' := by
  cases F
  · exact s
  · exact s.1
theorem StF.same {F : Frm} {H H' : Hp} (s : Same H H') : StF F H H' := (StS.same s).f
theorem con_st {F : Frm} {H H' : Hp} (s : StF F H H') {p : Addr} {vs : List V} (e : H p = some (F.con vs)) (r : ∀ x ∈ vs, ∃ q, x = .ref q) : H' p = some (F.con vs) := by
  cases F with
  | pr _ _ => exact s _ _ e
  | pl => exact s.2 _ _ e r
theorem unit_st {F : Frm} {H H' : Hp} (s : StF F H H') {v : V} {b : Bool} (h : F.unit H v b) : F.unit H' v b := by
  cases F with
  | pr _ _ => exact h
  | pl => exact let ⟨q, e, t⟩ := h; ⟨q, e, s.1 _ _ t⟩
mutual
theorem ShV.st {F : Frm} {H H' : Hp} (s : StF F H H') : ∀ {sh : Sh} {v : V}, ShV F H sh v → ShV F H' sh v
  | .link n, v, h => by
    rw [ShV] at h ⊢
    obtain ⟨q, e, t⟩ := h
    exact ⟨q, e, s.tup _ _ t⟩
  | .net ls, v, h => by
    rw [ShV] at h ⊢
    obtain ⟨q, p, vs, e, t, c, l⟩ := h
    exact ⟨q, p, vs, e, s.tup _ _ t, con_st s c (tls_refs l), l.st s.tup⟩
  | .node r ps, v, h => by
    rw [ShV] at h ⊢
    obtain ⟨q, p, vs, e, t, c, l⟩ := h
    exact ⟨q, p, vs, e, s.tup _ _ t, con_st s c (shVs_refs l), ShVs.st s l⟩
  | .opn, v, h => by
    rw [ShV] at h ⊢
    exact unit_st s h
  | .shut, v, h => by
    rw [ShV] at h ⊢
    exact unit_st s h
theorem ShVs.st {F : Frm} {H H' : Hp} (s : StF F H H') : ∀ {ss : List Sh} {vs : List V}, ShVs F H ss vs → ShVs F H' ss vs
  | [], vs, h => by rw [ShVs] at h ⊢; exact h
  | x :: ss, vs, h => by
    rw [ShVs] at h ⊢
    obtain ⟨v, r, e, hv, t⟩ := h
    exact ⟨v, r, e, ShV.st s hv, ShVs.st s t⟩
end
/-! shapes as data -/
def conD : Frm → List PyData → PyData
  | .pr _ _, ds => .tuple ds
  | .pl, ds => .list ds
mutual
def dB (F : Frm) : Sh → PyData
  | .link n => .tuple [.str "link", .str n]
  | .net ls => .tuple [.str "net", conD F (ls.map dL)]
  | .node r ps => .tuple [.str (kn r), conD F (dBs F ps)]
  | .opn => .tuple [.str "open"]
  | .shut => .tuple [.str "shut"]
def dBs (F : Frm) : List Sh → List PyData
  | [] => []
  | s :: ss => dB F s :: dBs F ss
end
/-- the two constants, as they lie -/
def UnitOk (F : Frm) (K : PySem.W.Frag) (H : Hp) : Prop := match F with
  | .pr aO aS => SqT K H aO [.str "open"] ∧ SqT K H aS [.str "shut"]
  | .pl => True
theorem con_dp {F : Frm} {K : PySem.W.Frag} {H : Hp} {p : Addr} {vs : List V} {ds : List PyData} (e : H p = some (F.con vs)) (h : DpAll K H vs ds) : Dp K H (.ref p) (conD F ds) := by
  cases F with
  | pr _ _ => exact .tup (SqT.of e) h
  | pl => exact .lst (SqL.of e) h
theorem unit_dp {F : Frm} {K : PySem.W.Frag} {H : Hp} (U : UnitOk F K H) {v : V} {b : Bool} (h : F.unit H v b) : Dp K H v (.tuple [.str (if b = true then "open" else "shut")]) := by
  cases F with
  | pr aO aS =>
    obtain rfl := h
    cases b
    · exact .tup U.2 (.cons (.str _) .nil)
    · exact .tup U.1 (.cons (.str _) .nil)
  | pl =>
    obtain ⟨q, rfl, e⟩ := h
    exact .tup (SqT.of e) (.cons (.str _) .nil)
mutual
theorem ShV.dp {F : Frm} {K : PySem.W.Frag} {H : Hp} (U : UnitOk F K H) : ∀ {sh : Sh} {v : V}, ShV F H sh v → Dp K H v (dB F sh)
  | .link n, v, h => by
    rw [ShV] at h
    rw [dB]
    obtain ⟨q, rfl, t⟩ := h
    exact .tup (SqT.of t) (.cons (.str _) (.cons (.str _) .nil))
  | .net ls, v, h => by
    rw [ShV] at h
    rw [dB]
    obtain ⟨q, p, vs, rfl, t, c, l⟩ := h
    exact .tup (SqT.of t) (.cons (.str _) (.cons (con_dp c l.dp) .nil))
  | .node r ps, v, h => by
    rw [ShV] at h
    rw [dB]
    obtain ⟨q, p, vs, rfl, t, c, l⟩ := h
    exact .tup (SqT.of t) (.cons (.str _) (.cons (con_dp c (ShVs.dp U l)) .nil))
  | .opn, v, h => by
    rw [ShV] at h
    rw [dB]
    exact unit_dp (b := true) U h
  | .shut, v, h => by
    rw [ShV] at h
    rw [dB]
    exact unit_dp (b := false) U h
theorem ShVs.dp {F : Frm} {K : PySem.W.Frag} {H : Hp} (U : UnitOk F K H) : ∀ {ss : List Sh} {vs : List V}, ShVs F H ss vs → DpAll K H vs (dBs F ss)
  | [], vs, h => by
    rw [ShVs] at h
    rw [h, dBs]
    exact .nil
  | x :: ss, vs, h => by
    rw [ShVs] at h
    obtain ⟨v, r, rfl, hv, t⟩ := h
    rw [dBs]
    exact .cons (ShV.dp U hv) (ShVs.dp U t)
end
/-! data of shapes is alike only for one shape -/
theorem kn_eq (r t : Bool) : kn r = kn t ↔ r = t := ⟨fun h => by
  cases r <;> cases t
  · rfl
  · exact absurd h (by decide +kernel)
  · exact absurd h (by decide +kernel)
  · rfl, fun h => by rw [h]⟩
def headD : Sh → Str := kindB
def tailD (F : Frm) : Sh → List PyData
  | .link n => [.str n]
  | .net ls => [conD F (ls.map dL)]
  | .node r ps => [conD F (dBs F ps)]
  | .opn => []
  | .shut => []
theorem kind_cases : ∀ a b : Sh, kindB a = kindB b → (∃ n m, a = .link n ∧ b = .link m) ∨ (∃ n m, a = .net n ∧ b = .net m) ∨ (∃ r n m, a = .node r n ∧ b = .node r m) ∨ (a = .opn ∧ b = .opn) ∨ (a = .shut ∧ b = .shut) := fun a b h => by
  cases a with
  | link n =>
    cases b with
    | link m => exact .inl ⟨n, m, rfl, rfl⟩
    | node r qs => cases r <;> exact absurd (show (Str.ofString "link") = kn _ from h) (by decide +kernel)
    | net m => exact absurd (show (Str.ofString "link") = Str.ofString "net" from h) (by decide +kernel)
    | opn => exact absurd (show (Str.ofString "link") = Str.ofString "open" from h) (by decide +kernel)
    | shut => exact absurd (show (Str.ofString "link") = Str.ofString "shut" from h) (by decide +kernel)
  | net n =>
    cases b with
    | net m => exact .inr (.inl ⟨n, m, rfl, rfl⟩)
    | node r qs => cases r <;> exact absurd (show (Str.ofString "net") = kn _ from h) (by decide +kernel)
    | link m => exact absurd (show (Str.ofString "net") = Str.ofString "link" from h) (by decide +kernel)
    | opn => exact absurd (show (Str.ofString "net") = Str.ofString "open" from h) (by decide +kernel)
    | shut => exact absurd (show (Str.ofString "net") = Str.ofString "shut" from h) (by decide +kernel)
  | node r n =>
    cases b with
    | node t m => exact .inr (.inr (.inl ⟨r, n, m, rfl, by rw [(kn_eq r t).mp h]⟩))
    | link m => cases r <;> exact absurd (show kn _ = (Str.ofString "link") from h) (by decide +kernel)
    | net m => cases r <;> exact absurd (show kn _ = (Str.ofString "net") from h) (by decide +kernel)
    | opn => cases r <;> exact absurd (show kn _ = (Str.ofString "open") from h) (by decide +kernel)
    | shut => cases r <;> exact absurd (show kn _ = (Str.ofString "shut") from h) (by decide +kernel)
  | opn =>
    cases b with
    | opn => exact .inr (.inr (.inr (.inl ⟨rfl, rfl⟩)))
    | node r qs => cases r <;> exact absurd (show (Str.ofString "open") = kn _ from h) (by decide +kernel)
    | link m => exact absurd (show (Str.ofString "open") = Str.ofString "link" from h) (by decide +kernel)
    | net m => exact absurd (show (Str.ofString "open") = Str.ofString "net" from h) (by decide +kernel)
    | shut => exact absurd (show (Str.ofString "open") = Str.ofString "shut" from h) (by decide +kernel)
  | shut =>
    cases b with
    | shut => exact .inr (.inr (.inr (.inr ⟨rfl, rfl⟩)))
    | node r qs => cases r <;> exact absurd (show (Str.ofString "shut") = kn _ from h) (by decide +kernel)
    | link m => exact absurd (show (Str.ofString "shut") = Str.ofString "link" from h) (by decide +kernel)
    | net m => exact absurd (show (Str.ofString "shut") = Str.ofString "net" from h) (by decide +kernel)
    | opn => exact absurd (show (Str.ofString "shut") = Str.ofString "open" from h) (by decide +kernel)
end RR
set_option maxHeartbeats 4000000
namespace RR
open PySem PySem.Spec PyProof.Rows L2
open LamX
/-! ### another name; values that are no names -/
/-- of a text that stands in the law -/
def oddC (c : Str) : Bool := !isName c && (c.cps.toList.all fun d => decide (d < 127)) && decide (c.length ≤ 40)
end RR
set_option maxHeartbeats 4000000
namespace RR
open PySem PySem.Spec PyProof.Rows L2
open LamX
/-! ### nets told -/
section
variable {X : Cx}
def rReprB (K : PySem.W.Frag) (n : Nat) : List V → Hp → VK → Prop := fun xs H Q => rReprQ K n xs H Q ∨ rReprA K n xs H Q
end
/-- links in a list or a tuple, and how they are shown -/
def GivL (H : Hp) (q : Addr) (vs : List V) (ls : List Lk) (d : PyData) : Prop := (H q = some (.lst vs) ∧ d = .list (ls.map dL)) ∨ (H q = some (.tup vs) ∧ d = .tuple (ls.map dL))
theorem lks_shaped {ls : List Lk} (h : ∀ l ∈ ls, Lok l) : SeqAt.shaped (.list (ls.map dL)) = true := by
  unfold SeqAt.shaped
  rw [Bool.and_eq_true]
  refine ⟨dLs_lay h, decide_eq_true ?_⟩
  show PyData.depthAll (ls.map dL) + 1 ≤ 64
  have := dLs_depth ls
  omega
def turnL (l : Lk) : Lk := (l.1, l.2.2, l.2.1)
theorem nodup_le_of {α : Type} [DecidableEq α] {a b : List α} (n : a.Nodup) (h : ∀ x ∈ a, x ∈ b) : a.length ≤ b.length := by
  have p : a.Perm (dd (b.filter fun x => decide (x ∈ a))) := same_once n (dd_one _) fun x => by
    rw [dd_mem, List.mem_filter, decide_eq_true_eq]
    exact ⟨fun z => ⟨h x z, z⟩, fun z => z.2⟩
  rw [p.length_eq]
  exact Nat.le_trans (dd_le _) (List.length_filter_le _ _)
theorem srtI_mem {l : List Int} {x : Int} : x ∈ srtI l ↔ x ∈ l := by
  unfold srtI
  rw [(List.mergeSort_perm _ _).mem_iff, dd_mem]
theorem srtI_len (l : List Int) : (srtI l).length ≤ l.length := by
  unfold srtI
  rw [(List.mergeSort_perm _ _).length_eq]
  exact dd_le l
theorem onceS_mem {l : List Str} {x : Str} : x ∈ onceS l ↔ x ∈ l := by
  unfold onceS
  rw [srtS_mem, dd_mem]
theorem onceS_len (l : List Str) : (onceS l).length ≤ l.length := by
  unfold onceS
  rw [srtS_len]
  exact dd_le l
def faceN (ls : List Lk) : List PyData := [.tuple ((ordL ls).map dL), .tuple ((jointsL ls).map .int), .tuple ((namesL ls).map .str), .int ((ls.length : Nat) : Int), .int (((namesL ls).length : Nat) : Int), .tuple [], .bool (decide ((namesL ls).length = ls.length))]
def spNetRt : Sp := fun vs H Q _ => ∃ p c ns a g l ls, vs = [.ref p, .ref l] ∧ PenAt H p c ns a g ∧ a ≤ 95000 ∧ LksAt H l ls ∧ ∀ a' g' H', H' p = some (pen c a' g') → Keep p H H' → a ≤ a' → a' ≤ a + 1 → Q (.bl true) H'
end RR
set_option maxHeartbeats 4000000
namespace RR
open PySem PySem.Spec PyProof.Rows L2
open LamX
/-! ### links laid between joints -/
theorem rise_lt {l : List Int} : ∀ {xs : List Int}, xs.Nodup → (xs.Pairwise fun a b => decide (a ≤ b) = true) → xs.Pairwise fun a b => a < b
  | [], _, _ => .nil
  | x :: xs, n, p => by
    rw [List.nodup_cons] at n
    rw [List.pairwise_cons] at p ⊢
    exact ⟨fun y hy => by
      have := of_decide_eq_true (p.1 y hy)
      have : x ≠ y := fun e => n.1 (e ▸ hy)
      omega, rise_lt (l := l) n.2 p.2⟩
theorem srtI_lt (l : List Int) : (srtI l).Pairwise fun a b => a < b := rise_lt (l := l) ((List.mergeSort_perm _ _).nodup_iff.mpr (dd_one l)) (rise_sort _)
theorem two_first : ∀ {xs : List Int}, (xs.Pairwise fun a b => a < b) → (0 : Int) ∈ xs → (1 : Int) ∈ xs → (∀ x ∈ xs, 0 ≤ x) → ∃ t, xs = 0 :: 1 :: t ∧ (∀ j ∈ t, 1 < j) ∧ t.Pairwise fun a b => a < b
  | [], _, h, _, _ => nomatch h
  | x :: xs, p, h0, h1, hn => by
    rw [List.pairwise_cons] at p
    have ex : x = 0 := by
      rcases List.mem_cons.mp h0 with e | m
      · exact e.symm
      · have := p.1 0 m
        have := hn x (.head _)
        omega
    subst ex
    have m1 : (1 : Int) ∈ xs := by
      rcases List.mem_cons.mp h1 with e | m
      · exact absurd e (by decide)
      · exact m
    match xs, p, m1 with
    | y :: t, p, m1 =>
      have p2 := List.pairwise_cons.mp p.2
      have ey : y = 1 := by
        have := p.1 y (.head _)
        rcases List.mem_cons.mp m1 with e | m
        · exact e.symm
        · have := p2.1 1 m
          omega
      subst ey
      exact ⟨t, rfl, p2.1, p2.2⟩
/-- the joints of a net beside its ends -/
def innL (ls : List Lk) : List Int := (jointsL ls).drop 2
theorem joints_inn {ls : List Lk} (h : ∀ l ∈ ls, Lok l) : jointsL ls = 0 :: 1 :: innL ls ∧ (∀ j ∈ innL ls, 1 < j) ∧ (innL ls).Pairwise fun a b => a < b := by
  obtain ⟨t, e, a, b⟩ := two_first (xs := jointsL ls) (srtI_lt _) (srtI_mem.mpr (by simp)) (srtI_mem.mpr (by simp)) (fun x hx => by
    rcases List.mem_append.mp (srtI_mem.mp hx) with m | m
    · rcases List.mem_append.mp m with m | m
      · simp only [List.mem_cons, List.not_mem_nil, or_false] at m
        omega
      · obtain ⟨l, hl, rfl⟩ := List.mem_map.mp m
        exact (h l hl).u.1
    · obtain ⟨l, hl, rfl⟩ := List.mem_map.mp m
      exact (h l hl).v.1)
  have ei : innL ls = t := by unfold innL; rw [e]; rfl
  rw [ei]
  exact ⟨e, a, b⟩
theorem inn_len (ls : List Lk) : (innL ls).length ≤ 2 * ls.length := by
  unfold innL
  rw [List.length_drop]
  have := srtI_len (([0, 1] ++ ls.map (fun l => l.2.1)) ++ ls.map fun l => l.2.2)
  simp only [List.length_append, List.length_map, List.length_cons, List.length_nil] at this
  unfold jointsL
  omega
theorem inn_of {ls : List Lk} (h : ∀ l ∈ ls, Lok l) {l : Lk} (hl : l ∈ ls) : (l.2.1 = 0 ∨ l.2.1 = 1 ∨ l.2.1 ∈ innL ls) ∧ (l.2.2 = 0 ∨ l.2.2 = 1 ∨ l.2.2 ∈ innL ls) := by
  have e := (joints_inn h).1
  have m1 : l.2.1 ∈ jointsL ls := srtI_mem.mpr (List.mem_append_left _ (List.mem_append_right _ (List.mem_map_of_mem (f := fun l : Lk => l.2.1) hl)))
  have m2 : l.2.2 ∈ jointsL ls := srtI_mem.mpr (List.mem_append_right _ (List.mem_map_of_mem (f := fun l : Lk => l.2.2) hl))
  rw [e] at m1 m2
  simp only [List.mem_cons] at m1 m2
  exact ⟨m1, m2⟩
/-- where a joint comes to lie: the ends, else the fresh numbers in order -/
def jmap (l r f : Int) (inn : List Int) (j : Int) : Int := if j = 0 then l else if j = 1 then r else f + ((inn.idxOf j : Nat) : Int)
def movL (ls : List Lk) (l r f : Int) : List Lk := ls.map fun k => (k.1, jmap l r f (innL ls) k.2.1, jmap l r f (innL ls) k.2.2)
mutual
def layS : Sh → Int → Int → Int → List Lk × Int
  | .link n, l, r, f => ([(n, l, r)], f)
  | .net ls, l, r, f => (movL ls l r f, f + (((innL ls).length : Nat) : Int))
  | .node true ps, l, r, f => layR ps l r f
  | .node false ps, l, r, f => layP ps l r f
  | .opn, _, _, f => ([], f)
  | .shut, _, _, f => ([], f)
def layR : List Sh → Int → Int → Int → List Lk × Int
  | [], _, _, f => ([], f)
  | p :: ps, l, r, f =>
    match ps with
    | [] => layS p l r f
    | q :: qs => ((layS p l f (f + 1)).1 ++ (layR (q :: qs) f r (layS p l f (f + 1)).2).1, (layR (q :: qs) f r (layS p l f (f + 1)).2).2)
def layP : List Sh → Int → Int → Int → List Lk × Int
  | [], _, _, f => ([], f)
  | p :: ps, l, r, f => ((layS p l r f).1 ++ (layP ps l r (layS p l r f).2).1, (layP ps l r (layS p l r f).2).2)
end
theorem layR_one (p : Sh) (l r f : Int) : layR [p] l r f = layS p l r f := by rw [layR]
theorem layR_two (p q : Sh) (qs : List Sh) (l r f : Int) : layR (p :: q :: qs) l r f = ((layS p l f (f + 1)).1 ++ (layR (q :: qs) f r (layS p l f (f + 1)).2).1, (layR (q :: qs) f r (layS p l f (f + 1)).2).2) := by rw [layR]
/-- the links of a web with the numbers of their joints -/
def linksB : Sh → List Lk
  | .net ls => ls
  | s => ordL (layS s 0 1 2).1
/-! how many -/
theorem mov_len (ls : List Lk) (l r f : Int) : (movL ls l r f).length = ls.length := List.length_map _
theorem lay_len : ∀ s : Sh, ∀ l r f, (layS s l r f).1.length = siz s := sh_ind (P := fun s => ∀ l r f, (layS s l r f).1.length = siz s) fun s ih => by
  have key : ∀ ps : List Sh, (∀ t ∈ ps, ∀ l r f, (layS t l r f).1.length = siz t) → (∀ l r f, (layR ps l r f).1.length = sizL ps) ∧ ∀ l r f, (layP ps l r f).1.length = sizL ps := fun ps => by
    induction ps with
    | nil => exact fun _ => ⟨fun _ _ _ => by rw [layR, sizL]; rfl, fun _ _ _ => by rw [layP, sizL]; rfl⟩
    | cons p ps ih2 =>
      intro h
      obtain ⟨a, b⟩ := ih2 fun t ht => h t (.tail _ ht)
      refine ⟨fun l r f => ?_, fun l r f => ?_⟩
      · cases ps with
        | nil => rw [layR_one, h p (.head _), sizL, sizL, Nat.add_zero]
        | cons q qs =>
          rw [layR_two, List.length_append, h p (.head _), a]
          conv => rhs; rw [sizL]
      · rw [layP, List.length_append, h p (.head _), b, sizL]
  intro l r f
  cases s with
  | link n => rw [layS, siz]; rfl
  | net ls => rw [layS, siz]; exact mov_len ..
  | node b ps =>
    obtain ⟨h1, h2⟩ := key ps fun t ht => ih t (dep_part ht)
    cases b
    · rw [layS, siz]; exact h2 l r f
    · rw [layS, siz]; exact h1 l r f
  | opn => rw [layS, siz]; rfl
  | shut => rw [layS, siz]; rfl
theorem linksB_len (s : Sh) : (linksB s).length = siz s := by
  cases s with
  | net ls => rfl
  | _ => show (ordL _).length = _; rw [ordL_len, lay_len]
/-! the names -/
mutual
def nmS : Sh → List Str
  | .link n => [n]
  | .net ls => ls.map fun k => k.1
  | .node _ ps => nmL ps
  | .opn => []
  | .shut => []
def nmL : List Sh → List Str
  | [] => []
  | p :: ps => nmS p ++ nmL ps
end
theorem lay_names : ∀ s : Sh, ∀ l r f, ((layS s l r f).1.map fun k => k.1) = nmS s := sh_ind (P := fun s => ∀ l r f, ((layS s l r f).1.map fun k => k.1) = nmS s) fun s ih => by
  have key : ∀ ps : List Sh, (∀ t ∈ ps, ∀ l r f, ((layS t l r f).1.map fun k => k.1) = nmS t) → (∀ l r f, ((layR ps l r f).1.map fun k => k.1) = nmL ps) ∧ ∀ l r f, ((layP ps l r f).1.map fun k => k.1) = nmL ps := fun ps => by
    induction ps with
    | nil => exact fun _ => ⟨fun _ _ _ => by rw [layR, nmL]; rfl, fun _ _ _ => by rw [layP, nmL]; rfl⟩
    | cons p ps ih2 =>
      intro h
      obtain ⟨a, b⟩ := ih2 fun t ht => h t (.tail _ ht)
      refine ⟨fun l r f => ?_, fun l r f => ?_⟩
      · cases ps with
        | nil => rw [layR_one, h p (.head _), nmL, nmL, List.append_nil]
        | cons q qs =>
          rw [layR_two, List.map_append, h p (.head _), a]
          conv => rhs; rw [nmL]
      · rw [layP, List.map_append, h p (.head _), b, nmL]
  intro l r f
  cases s with
  | link n => rw [layS, nmS]; rfl
  | net ls => rw [layS, nmS]; unfold movL; rw [List.map_map]; rfl
  | node b ps =>
    obtain ⟨h1, h2⟩ := key ps fun t ht => ih t (dep_part ht)
    cases b
    · rw [layS, nmS]; exact h2 l r f
    · rw [layS, nmS]; exact h1 l r f
  | opn => rw [layS, nmS]; rfl
  | shut => rw [layS, nmS]; rfl
theorem nmS_ok : ∀ s, Pln s → ∀ n ∈ nmS s, Nm n := sh_ind (P := fun s => Pln s → ∀ n ∈ nmS s, Nm n) fun s ih h n hn => by
  cases s with
  | link m => rw [Pln] at h; rw [nmS] at hn; rw [List.mem_singleton.mp hn]; exact h
  | net ls =>
    rw [Pln] at h; rw [nmS] at hn
    obtain ⟨l, hl, rfl⟩ := List.mem_map.mp hn
    exact (h l hl).nm
  | node b ps =>
    rw [Pln, plnL_iff] at h
    rw [nmS] at hn
    have key : ∀ qs : List Sh, (∀ t ∈ qs, ∀ n ∈ nmS t, Nm n) → ∀ n ∈ nmL qs, Nm n := fun qs => by
      induction qs with
      | nil => intro _ n hn; rw [nmL] at hn; exact nomatch hn
      | cons q qs ih2 =>
        intro k n hn
        rw [nmL] at hn
        rcases List.mem_append.mp hn with m | m
        · exact k q (.head _) n m
        · exact ih2 (fun t ht => k t (.tail _ ht)) n m
    exact key ps (fun t ht => ih t (dep_part ht) (h t ht)) n hn
  | opn => rw [nmS] at hn; exact nomatch hn
  | shut => rw [nmS] at hn; exact nomatch hn
/-! which joints -/
def Jn (l r f f' j : Int) : Prop := j = l ∨ j = r ∨ (f ≤ j ∧ j < f')
theorem jmap_jn {ls : List Lk} {l r f j : Int} (h : j = 0 ∨ j = 1 ∨ j ∈ innL ls) : Jn l r f (f + (((innL ls).length : Nat) : Int)) (jmap l r f (innL ls) j) := by
  unfold jmap Jn
  by_cases h0 : j = 0
  · rw [if_pos h0]
    exact .inl rfl
  · rw [if_neg h0]
    by_cases h1 : j = 1
    · rw [if_pos h1]
      exact .inr (.inl rfl)
    · rw [if_neg h1]
      have m : j ∈ innL ls := by rcases h with h | h | h; exact absurd h h0; exact absurd h h1; exact h
      have := List.idxOf_lt_length_iff.mpr m
      exact .inr (.inr ⟨by omega, by omega⟩)
structure LayOk (s : Sh) : Prop where
  one : 1 ≤ siz s
  up : ∀ l r f, f ≤ (layS s l r f).2 ∧ (layS s l r f).2 + 1 ≤ f + 3 * ((siz s : Nat) : Int)
  jn : ∀ l r f, ∀ k ∈ (layS s l r f).1, Jn l r f (layS s l r f).2 k.2.1 ∧ Jn l r f (layS s l r f).2 k.2.2
theorem layR_ok : ∀ (ps : List Sh), ps ≠ [] → (∀ t ∈ ps, LayOk t) → ∀ l r f, f ≤ (layR ps l r f).2 ∧ (layR ps l r f).2 + 1 ≤ f + 3 * ((sizL ps : Nat) : Int) ∧ ∀ k ∈ (layR ps l r f).1, Jn l r f (layR ps l r f).2 k.2.1 ∧ Jn l r f (layR ps l r f).2 k.2.2
  | [], h, _, _, _, _ => absurd rfl h
  | [p], _, h, l, r, f => by
    rw [layR_one, sizL, sizL, Nat.add_zero]
    have k := h p (.head _)
    exact ⟨(k.up l r f).1, (k.up l r f).2, k.jn l r f⟩
  | p :: q :: qs, _, h, l, r, f => by
    have kp := h p (.head _)
    obtain ⟨a, b⟩ := kp.up l f (f + 1)
    obtain ⟨c, d, e⟩ := layR_ok (q :: qs) (by simp) (fun t ht => h t (.tail _ ht)) f r (layS p l f (f + 1)).2
    rw [layR_two]
    have es : sizL (p :: q :: qs) = siz p + sizL (q :: qs) := by rw [sizL]
    rw [es]
    refine ⟨by omega, by push_cast; omega, fun k hk => ?_⟩
    rcases List.mem_append.mp hk with m | m
    · have := kp.jn l f (f + 1) k m
      unfold Jn at this ⊢
      dsimp only
      omega
    · have := e k m
      unfold Jn at this ⊢
      dsimp only
      omega
theorem layP_ok : ∀ (ps : List Sh), (∀ t ∈ ps, LayOk t) → ∀ l r f, f ≤ (layP ps l r f).2 ∧ (layP ps l r f).2 + ((ps.length : Nat) : Int) ≤ f + 3 * ((sizL ps : Nat) : Int) ∧ ∀ k ∈ (layP ps l r f).1, Jn l r f (layP ps l r f).2 k.2.1 ∧ Jn l r f (layP ps l r f).2 k.2.2
  | [], _, l, r, f => by
    rw [layP, sizL]
    exact ⟨Int.le_refl _, by simp, fun k hk => (nomatch hk)⟩
  | p :: ps, h, l, r, f => by
    have kp := h p (.head _)
    obtain ⟨a, b⟩ := kp.up l r f
    obtain ⟨c, d, e⟩ := layP_ok ps (fun t ht => h t (.tail _ ht)) l r (layS p l r f).2
    rw [layP]
    have es : sizL (p :: ps) = siz p + sizL ps := by rw [sizL]
    rw [es, List.length_cons]
    refine ⟨by omega, by push_cast; omega, fun k hk => ?_⟩
    rcases List.mem_append.mp hk with m | m
    · have := kp.jn l r f k m
      unfold Jn at this ⊢
      dsimp only
      omega
    · have := e k m
      unfold Jn at this ⊢
      dsimp only
      omega
theorem lay_ok : ∀ s, Nrm s → s ≠ .opn → s ≠ .shut → LayOk s := sh_ind (P := fun s => Nrm s → s ≠ .opn → s ≠ .shut → LayOk s) fun s ih n h1 h2 => by
  cases s with
  | link m =>
    refine ⟨by rw [siz]; exact Nat.le_refl _, fun l r f => by rw [layS, siz]; constructor <;> (dsimp only; omega), fun l r f k hk => ?_⟩
    rw [layS] at hk ⊢
    rw [List.mem_singleton.mp hk]
    exact ⟨.inl rfl, .inr (.inl rfl)⟩
  | net ls =>
    rw [Nrm] at n
    have one : 1 ≤ ls.length := by
      have := n.1
      cases ls with
      | nil => exact absurd rfl this
      | cons a b => simp
    refine ⟨by rw [siz]; exact one, fun l r f => ?_, fun l r f k hk => ?_⟩
    · rw [layS, siz]
      have := inn_len ls
      constructor <;> (dsimp only; omega)
    · rw [layS] at hk ⊢
      obtain ⟨l0, hl, rfl⟩ := List.mem_map.mp hk
      have := inn_of n.2.1 hl
      exact ⟨jmap_jn this.1, jmap_jn this.2⟩
  | node b ps =>
    rw [nrm_node] at n
    have each : ∀ t ∈ ps, LayOk t := fun t ht => ih t (dep_part ht) (n.2 t ht).1 (n.2 t ht).2.1 (n.2 t ht).2.2.1
    obtain ⟨p, q, qs, e⟩ : ∃ p q qs, ps = p :: q :: qs := by
      match ps, n.1 with
      | p :: q :: qs, _ => exact ⟨p, q, qs, rfl⟩
    have s1 : 1 ≤ sizL ps := by
      have := (each p (by rw [e]; exact .head _)).one
      rw [e, sizL]
      omega
    refine ⟨by rw [siz]; exact s1, fun l r f => ?_, fun l r f => ?_⟩
    · cases b
      · have := layP_ok ps each l r f
        have := n.1
        rw [layS, siz]
        omega
      · have := layR_ok ps (by rw [e]; simp) each l r f
        rw [layS, siz]
        exact ⟨this.1, this.2.1⟩
    · cases b
      · rw [layS]
        exact (layP_ok ps each l r f).2.2
      · rw [layS]
        exact (layR_ok ps (by rw [e]; simp) each l r f).2.2
  | opn => exact absurd rfl h1
  | shut => exact absurd rfl h2
theorem laid_ok {s : Sh} (n : Nrm s) (h : siz s ≤ 14) : ∀ k ∈ (layS s 0 1 2).1, Lok k := fun k hk => by
  have nk : Nm k.1 := nmS_ok s (nrm_pln s n) _ (by rw [← lay_names s 0 1 2]; exact List.mem_map_of_mem (f := fun k : Lk => k.1) hk)
  by_cases h1 : s = .opn
  · subst h1; rw [layS] at hk; exact nomatch hk
  by_cases h2 : s = .shut
  · subst h2; rw [layS] at hk; exact nomatch hk
  have L := lay_ok s n h1 h2
  have u := L.up 0 1 2
  have j := L.jn 0 1 2 k hk
  unfold Jn at j
  exact ⟨nk, ⟨by omega, by omega⟩, by omega, by omega⟩
theorem linksB_ok {s : Sh} (n : Nrm s) (h : siz s ≤ 14) : ∀ k ∈ linksB s, Lok k := by
  cases s with
  | net ls => rw [Nrm] at n; exact n.2.1
  | link m => exact Lok.ord (laid_ok n h)
  | node b ps => exact Lok.ord (laid_ok n h)
  | opn => exact Lok.ord (laid_ok n h)
  | shut => exact Lok.ord (laid_ok n h)
theorem linksB_names (s : Sh) : namesL (linksB s) = onceS (nmS s) := by
  cases s with
  | net ls => rw [nmS]; rfl
  | _ => show namesL (ordL _) = _; rw [namesL_ord]; unfold namesL; rw [lay_names]
/-- no deeper than there are places -/
theorem dep_siz : ∀ s, Nrm s → dep s ≤ siz s := sh_ind (P := fun s => Nrm s → dep s ≤ siz s) fun s ih n => by
  cases s with
  | node b ps =>
    have n' := n
    rw [nrm_node] at n
    rw [dep, siz]
    match ps, n.1, n.2 with
    | p :: q :: qs, _, e =>
      have one : ∀ t ∈ p :: q :: qs, 1 ≤ siz t := fun t ht => (lay_ok t (e t ht).1 (e t ht).2.1 (e t ht).2.2.1).one
      have all : 1 ≤ sizL (p :: q :: qs) := Nat.le_trans (one p (.head _)) (siz_mem (.head _))
      have each : depL (p :: q :: qs) ≤ sizL (p :: q :: qs) - 1 := depL_le fun t ht => by
        have d := ih t (dep_part ht) (e t ht).1
        have rest : siz t + 1 ≤ sizL (p :: q :: qs) := by
          have s1 : sizL (p :: q :: qs) = siz p + (siz q + sizL qs) := by rw [sizL, sizL]
          have o1 := one p (.head _)
          have o2 := one q (.tail _ (.head _))
          rcases List.mem_cons.mp ht with rfl | ht2
          · omega
          · rcases List.mem_cons.mp ht2 with rfl | ht3
            · omega
            · have := siz_mem ht3
              omega
        omega
      omega
  | _ => exact Nat.zero_le _
/-! data that can be compared -/
end RR
set_option maxHeartbeats 4000000
namespace RR
open PySem PySem.Spec PyProof.Rows L2
open LamX
/-! ### small rules for webs -/
section
open PyProof
/-- a list grows by the items of a tuple, whatever else the tuple's object holds -/
theorem grows_by {l b : Addr} {xs ys : Array Value} {n : Nat} {o : Obj} (z : xs.size + ys.size ≤ sizeLine) (tup : o.cls = .type "tuple" ∧ ∃ k, o.data = .seq ys k) :
    Meets (Builtin.«list.extend» ⟨[.ref l, .ref b], []⟩) (fun _ R s => (s.heap.get? l = some { cls := .type "list", data := .seq xs n } ∧ s.heap.get? b = some o) ∧ R (.ok (.ret Value.none)) { s with heap := s.heap.update l (Obj.mapSeq (· ++ ys)), toks := s.toks }) := by
  obtain ⟨tc, k, td⟩ := tup
  cases o with
  | mk oc od ot os =>
    subst tc td
    have short : ¬(!xs.isEmpty && Builtin.List.listTooLong (xs.size + ys.size)) = true := by
      rw [notLongL z, Bool.and_false]
      exact Bool.false_ne_true
    have fits : (xs ++ ys).size ≤ sizeLine + 1 := by
      rw [Array.size_append]
      omega
    refine .of_wp fun prog w A R s h => ?_
    cases s with
    | mk hp gs dr tk sy =>
      obtain ⟨⟨hl, hb⟩, hr⟩ := h
      have g1 := PySem.AutoSeq1.idx_int
      have g2 := PySem.AutoSeq1.sub_tuple_tuple
      have g3 := PySem.AutoSeq1.sub_list_list
      have g4 := PySem.AutoSeq1.sub_tuple_list
      have g5 := PySem.AutoSeq1.sub_list_tuple
      have few : xs.size ≤ sizeLine := by omega
      wp_walk using PySem.AutoSeq1.wpAny_loadPart' hl, PySem.AutoSeq1.wpAny_loadPart' hb, (wpAny_updateSeq hl rfl (hz := few) (_hz' := fits))
      exact ⟨_, rfl, hr⟩
end
section
variable {X : Cx} {CX : CXT} {pins : List (Addr × Obj)} {σ : L2.St} {H : Hp} {s : Shared} {C f : Addr} {n : Nat} {g : Sp} {E : XK} {op : Operator}
/-- l.extend(b), b a list or a tuple -/
def rExtB : V → List V → Hp → VK → Prop := fun x vs H Q => ∃ l b xs zs, x = .ref l ∧ vs = [.ref b] ∧ H l = some (.lst xs) ∧ (H b = some (.lst zs) ∨ H b = some (.tup zs)) ∧ xs.length + zs.length ≤ sizeLine ∧ Q .non (upd H l (.lst (xs ++ zs)))
theorem mt_extB : MtM X "list.extend" rExtB := by
  intro pins s σ H x vs v us Q I rx rv h
  obtain ⟨l, b, xs, zs, rfl, rfl, hH, hB, hz, q⟩ := h
  rcases hB with hB | hB
  · exact mt_extend pins s σ H _ _ v us Q I rx rv ⟨l, b, xs, zs, rfl, rfl, hH, hB, hz, q⟩
  cases rx
  obtain ⟨u, rfl, ru⟩ := rv.one
  cases ru
  obtain ⟨z, its, n, r, hl, e⟩ := I.lstM hH
  obtain ⟨its2, r2, ⟨o2, e2, hc, m2, hd2⟩, z2⟩ := I.tuple (SqT.of hB)
  have l2 := r2.length
  have hsz : its.toArray.size + its2.toArray.size ≤ sizeLine := by rw [List.size_toArray, List.size_toArray]; omega
  refine call_meets F.slot_list_extend ⟨_, e, rfl⟩ F.entry_list_extend (F.args_list_extend_2 _ _) (grows_by hsz ⟨hc, m2, hd2⟩) ⟨⟨e, e2⟩, ?_⟩
  refine ⟨.non, _, I.lset (its' := its ++ its2) hH e (by simp) (r.append r2) ?_, rfl, q⟩
  rw [List.length_append]
  omega
/-- what the text says of the class at C and one of its operators, both sides instances -/
structure BinW (K : PySem.W.Frag) (C : Addr) (op : Operator) (f : Addr) : Prop where
  sf : PySem.W.selfFirst K C = true
  hs : PySem.W.findIn K (.ref C) (PySem.dunder op.info.2) = some (some (.ref f))
  hf : PySem.W.isFn K (.ref f) = true
def rOpW (C : Addr) (g : Sp) (E : XK) : R2 := fun x y H Q => (∃ a dx fs, x = .ref a ∧ H a = some (.ins C dx fs)) ∧ (∃ a dx fs, y = .ref a ∧ H a = some (.ins C dx fs)) ∧ g [x, y] H Q E
end
/-! ### promises of the program's defs about webs -/
def spNetB (K : PySem.W.Frag) (F : Frm) : Sp := fun vs H Q _ => ∃ v xs ls, vs = [v] ∧ SqV K H v xs ∧ TLs H xs ls ∧ ls.length < 64 ∧ ∀ u H', Same H H' → ShV F H' (netB ls) u → Q u H'
/-- parts that may be put together -/
def Few (r : Bool) (ss : List Sh) : Prop := ss.length < 100 ∧ (flat r ss).length < 10000 ∧ ∀ s ∈ ss, Nrm s ∧ dep s ≤ 18
def spCompB (F : Frm) : Sp := fun vs H Q _ => ∃ r p xs ss, vs = [.str (kn r), .ref p] ∧ H p = some (.lst xs) ∧ ShVs F H ss xs ∧ Few r ss ∧ ∀ u H', Same H H' → ShV F H' (compS r ss) u → Q u H'
def LayV (H : Hp) (r : Addr) (d : List Lk × Int) : Prop := ∃ l xs, H r = some (.tup [.ref l, .int d.2]) ∧ H l = some (.lst xs) ∧ TLs H xs d.1
/-- where a joint comes to lie, by any numbers for the inner ones -/
def jmapN (l r : Int) (num : Nat → Int) (inn : List Int) (j : Int) : Int := if j = 0 then l else if j = 1 then r else num (inn.idxOf j)
def movG (ls : List Lk) (l r : Int) (num : Nat → Int) : List Lk := ls.map fun k => (k.1, jmapN l r num (innL ls) k.2.1, jmapN l r num (innL ls) k.2.2)
theorem movG_len (ls : List Lk) (l r : Int) (num : Nat → Int) : (movG ls l r num).length = ls.length := List.length_map _
def spMovB (K : PySem.W.Frag) : Sp := fun vs H Q _ => ∃ v xs ls l r num q js, vs = [v, .int l, .int r, .ref q] ∧ SqV K H v xs ∧ TLs H xs ls ∧ (∀ k ∈ ls, Lok k) ∧ ls.length < 64 ∧ H q = some (.lst js) ∧ (∀ (i : Nat), i < (innL ls).length → js[i]? = some (V.int (num i))) ∧
  ∀ p H' ys, Same H H' → H' p = some (.lst ys) → TLs H' ys (movG ls l r num) → Q (.ref p) H'
def spLayNB (K : PySem.W.Frag) : Sp := fun vs H Q _ => ∃ v xs ls l r f, vs = [v, .int l, .int r, .int f] ∧ SqV K H v xs ∧ TLs H xs ls ∧ (∀ k ∈ ls, Lok k) ∧ ls.length < 64 ∧ 0 ≤ f ∧ f ≤ 100000 ∧ ∀ p H', Same H H' → LayV H' p (movL ls l r f, f + (((innL ls).length : Nat) : Int)) → Q (.ref p) H'
/-- a shape that may be laid -/
def Lay (d : Nat) (s : Sh) : Prop := Nrm s ∧ dep s < d ∧ siz s < 64
def spLayB (F : Frm) (d : Nat) : Sp := fun vs H Q _ => ∃ v s l r f, vs = [v, .int l, .int r, .int f] ∧ ShV F H s v ∧ Lay d s ∧ 0 ≤ f ∧ f + 200 * ((siz s : Nat) : Int) ≤ 50000 ∧ ∀ p H', Same H H' → LayV H' p (layS s l r f) → Q (.ref p) H'
def spLayRB (F : Frm) (d : Nat) : Sp := fun vs H Q _ => ∃ p xs ss l r f, vs = [.ref p, .int l, .int r, .int f] ∧ H p = some (.tup xs) ∧ ShVs F H ss xs ∧ (∀ s ∈ ss, Lay d s ∧ s ≠ .opn ∧ s ≠ .shut) ∧ ss ≠ [] ∧ sizL ss < 64 ∧ 0 ≤ f ∧ f + 200 * ((sizL ss : Nat) : Int) ≤ 50000 ∧ ∀ p H', Same H H' → LayV H' p (layR ss l r f) → Q (.ref p) H'
def spLinksB (F : Frm) : Sp := fun vs H Q _ => ∃ v s, vs = [v] ∧ ShV F H s v ∧ Lay 19 s ∧ ∀ q H', Same H H' → LinksT H' q (linksB s) → Q (.ref q) H'
mutual
def hasNet : Sh → Bool
  | .net _ => true
  | .node _ ps => hasNetL ps
  | .link _ => false
  | .opn => false
  | .shut => false
def hasNetL : List Sh → Bool
  | [] => false
  | s :: ss => hasNet s || hasNetL ss
end
def spNetlB (F : Frm) (d : Nat) : Sp := fun vs H Q _ => ∃ v s, vs = [v] ∧ ShV F H s v ∧ dep s < d ∧ ∀ H', Same H H' → Q (.bl (!hasNet s)) H'
/-! the parts of a shape -/
section
variable {aO aS : Addr} {F : Frm} {K : PySem.W.Frag} {H : Hp}
theorem shv_net {q p : Addr} {ls : List Lk} (e : H q = some (.tup [.str "net", .ref p])) (l : LinksT H p ls) : ShV (.pr aO aS) H (.net ls) (.ref q) := by
  obtain ⟨vs, ep, t⟩ := l
  rw [ShV]
  exact ⟨q, p, vs, rfl, e, ep, t⟩
theorem shv_opn : ShV (.pr aO aS) H .opn (.ref aO) := by
  rw [ShV]
  rfl
theorem shv_shut : ShV (.pr aO aS) H .shut (.ref aS) := by
  rw [ShV]
  rfl
/-- the first item of a shape -/
theorem shv_head (U : UnitOk F K H) {s : Sh} {v : V} (h : ShV F H s v) : ∃ q xs, v = .ref q ∧ SqT K H q (.str (kindB s) :: xs) := by
  cases s with
  | link n => rw [ShV] at h; obtain ⟨q, rfl, e⟩ := h; exact ⟨q, _, rfl, SqT.of e⟩
  | net ls => rw [ShV] at h; obtain ⟨q, p, vs, rfl, e, _⟩ := h; exact ⟨q, _, rfl, SqT.of e⟩
  | node r ps => rw [ShV] at h; obtain ⟨q, p, vs, rfl, e, _⟩ := h; exact ⟨q, _, rfl, SqT.of e⟩
  | opn =>
    rw [ShV] at h
    cases F with
    | pr aO aS => obtain rfl := h; exact ⟨_, [], rfl, U.1⟩
    | pl => obtain ⟨q, rfl, e⟩ := h; exact ⟨q, [], rfl, SqT.of e⟩
  | shut =>
    rw [ShV] at h
    cases F with
    | pr aO aS => obtain rfl := h; exact ⟨_, [], rfl, U.2⟩
    | pl => obtain ⟨q, rfl, e⟩ := h; exact ⟨q, [], rfl, SqT.of e⟩
theorem shv_link_of {n : Str} {v : V} (h : ShV F H (.link n) v) : ∃ q, v = .ref q ∧ H q = some (.tup [.str "link", .str n]) := by rwa [ShV] at h
theorem shv_net_of {ls : List Lk} {v : V} (h : ShV F H (.net ls) v) : ∃ q p vs, v = .ref q ∧ H q = some (.tup [.str "net", .ref p]) ∧ H p = some (F.con vs) ∧ TLs H vs ls := by rwa [ShV] at h
theorem shv_node_of {r : Bool} {ps : List Sh} {v : V} (h : ShV F H (.node r ps) v) : ∃ q p vs, v = .ref q ∧ H q = some (.tup [.str (kn r), .ref p]) ∧ H p = some (F.con vs) ∧ ShVs F H ps vs := by rwa [ShV] at h
end
theorem StF.p {aO aS : Addr} {H H' : Hp} (s : StT H H') : StF (.pr aO aS) H H' := s
theorem cutV_from (vs : List V) (n : Nat) : cutV vs (some (n : Int)) none = vs.drop n := by
  unfold cutV
  rw [HT.sIx_nat, HT.sIx_none]
  by_cases h : n ≤ vs.length
  · rw [Nat.min_eq_left h, List.take_of_length_le (by rw [List.length_drop]; omega)]
  · rw [Nat.min_eq_right (by omega), Nat.sub_self, List.take_zero, List.drop_of_length_le (by omega)]
theorem cut_inn (ls : List Lk) : cutV ((jointsL ls).map V.int) (some 2) none = (innL ls).map V.int := by
  rw [show (2 : Int) = ((2 : Nat) : Int) from rfl, cutV_from, ← List.map_drop]
  rfl
/-- the numbers of joints, told one by one -/
def JMap (l r : Int) (num : Nat → Int) (inn : List Int) (n : Nat) (kvs : List (Key × V)) : Prop :=
  kvs.length ≤ 2 + n ∧ valV kvs (.inl 0) = some (.int l) ∧ valV kvs (.inl 1) = some (.int r) ∧ ∀ (i : Nat) (j : Int), i < n → inn[i]? = some j → valV kvs (.inl j) = some (.int (num i))
theorem jmap_0 (l r : Int) (num : Nat → Int) (inn : List Int) : JMap l r num inn 0 (mergeK [] [(.inl 0, .int l), (.inl 1, .int r)]) := by
  refine ⟨show (2 : Nat) ≤ 2 + 0 from Nat.le_refl _, ?_, ?_, fun i j h => absurd h (Nat.not_lt_zero _)⟩
  · rfl
  · rfl
theorem jmap_step {l r : Int} {num : Nat → Int} {inn : List Int} {n : Nat} {kvs : List (Key × V)} (h : JMap l r num inn n kvs) (p : inn.Pairwise fun a b => a < b) (one : ∀ j ∈ inn, 1 < j) {j : Int} (e : inn[n]? = some j) : JMap l r num inn (n + 1) (putK kvs (.inl j) (.int (num n))) := by
  obtain ⟨a, b, c, d⟩ := h
  have j1 := one j (List.mem_of_getElem? e)
  have ne : ∀ k : Int, k ≠ j → ¬ (Sum.inl k : Key) = Sum.inl j := fun k h z => h (Sum.inl.inj z)
  refine ⟨by have := length_putK kvs (.inl j) (V.int (num n)); omega, ?_, ?_, fun i k hi ek => ?_⟩
  · rw [valV_put, if_neg (ne 0 (by omega))]; exact b
  · rw [valV_put, if_neg (ne 1 (by omega))]; exact c
  · rw [valV_put]
    by_cases z : i = n
    · subst z
      rw [e] at ek
      cases ek
      rw [if_pos rfl]
    · have lt : i < n := by omega
      obtain ⟨hi1, ei⟩ := List.getElem?_eq_some_iff.mp ek
      obtain ⟨hn1, en⟩ := List.getElem?_eq_some_iff.mp e
      have := (List.pairwise_iff_getElem.mp p) i n hi1 hn1 lt
      rw [ei, en] at this
      rw [if_neg (ne k (by omega))]
      exact d i k lt ek
theorem jmap_at {l r : Int} {num : Nat → Int} {inn : List Int} {kvs : List (Key × V)} (h : JMap l r num inn inn.length kvs) {j : Int} (m : j = 0 ∨ j = 1 ∨ j ∈ inn) : valV kvs (.inl j) = some (.int (jmapN l r num inn j)) := by
  obtain ⟨a, b, c, d⟩ := h
  unfold jmapN
  by_cases h0 : j = 0
  · rw [if_pos h0, h0]; exact b
  rw [if_neg h0]
  by_cases h1 : j = 1
  · rw [if_pos h1, h1]; exact c
  rw [if_neg h1]
  have mi : j ∈ inn := by rcases m with m | m | m; exact absurd m h0; exact absurd m h1; exact m
  have lt := List.idxOf_lt_length_iff.mpr mi
  exact d _ j lt (by rw [List.getElem?_eq_getElem lt, List.getElem_idxOf lt])
end RR
set_option maxHeartbeats 4000000
namespace RR
open PySem PySem.Spec PyProof.Rows L2
open LamX
theorem sIx_m1 {n : Nat} (h : 1 ≤ n) : HT.sIx n n (some (-1)) = n - 1 := by
  show (if (-1 : Int) < 0 then ((-1 : Int) + (n : Int)).toNat else min (-1 : Int).toNat n) = n - 1
  rw [if_pos (by decide)]
  omega
theorem cutV_m1 {vs : List V} (h : 1 ≤ vs.length) : cutV vs none (some (-1)) = vs.take (vs.length - 1) := by
  unfold cutV
  rw [HT.sIx_none, sIx_m1 h, List.drop_zero, Nat.sub_zero]
theorem atI_m1 {vs : List V} {x : V} (h : vs[vs.length - 1]? = some x) : atI vs (-1) = some x := by
  have l : 1 ≤ vs.length := by
    cases vs with
    | nil => simp at h
    | cons a b => simp
  unfold atI ixN
  rw [if_neg (by decide), if_pos (by omega)]
  show vs[((-1 : Int) + vs.length).toNat]? = _
  rw [show ((-1 : Int) + vs.length).toNat = vs.length - 1 from by omega]
  exact h
theorem take_siz {ss : List Sh} {i : Nat} {t : Sh} (e : ss[i]? = some t) : sizL (ss.take (i + 1)) = sizL (ss.take i) + siz t := by
  rw [List.take_add_one, e, sizL_app]
  congr 1
theorem drop_at {α : Type} {ss : List α} {i : Nat} {t : α} (e : ss[i]? = some t) : ss.drop i = t :: ss.drop (i + 1) := by
  obtain ⟨h, e⟩ := List.getElem?_eq_some_iff.mp e
  rw [List.drop_eq_getElem_cons h, e]
theorem siz_split (ss : List Sh) (i : Nat) : sizL ss = sizL (ss.take i) + sizL (ss.drop i) := by
  conv => lhs; rw [← List.take_append_drop i ss, sizL_app]
theorem drop_one {ss : List Sh} {i : Nat} (h : i < ss.length) (one : ∀ s ∈ ss, 1 ≤ siz s) : 1 ≤ sizL (ss.drop i) := by
  obtain ⟨t, e⟩ : ∃ t, ss[i]? = some t := ⟨_, List.getElem?_eq_getElem h⟩
  rw [drop_at e, sizL]
  have := one t (List.mem_of_getElem? e)
  omega
/-! ### texts of webs -/
def lkText (l : Lk) : Str := Str.ofString (toString l.2.1) ++ Str.ofString "-" ++ l.1 ++ Str.ofString "-" ++ Str.ofString (toString l.2.2)
def sepS (r : Bool) : Str := if r = true then " & " else " | "
mutual
def shown : Sh → Str
  | .link n => n
  | .net ls => Str.ofString "[" ++ Txt.join " " (ls.map lkText) ++ Str.ofString "]"
  | .node r ps => Str.ofString "(" ++ Txt.join (sepS r) (shownL ps) ++ Str.ofString ")"
  | .opn => "open"
  | .shut => "shut"
def shownL : List Sh → List Str
  | [] => []
  | s :: ss => shown s :: shownL ss
end
def spTextB (F : Frm) (d : Nat) : Sp := fun vs H Q _ => ∃ v s, vs = [v] ∧ ShV F H s v ∧ Lay d s ∧ ∀ H', Same H H' → Q (.str (shown s)) H'
end RR
set_option maxHeartbeats 4000000
namespace RR
open PySem PySem.Spec PyProof.Rows L2
open LamX
theorem netl_all : ∀ ss : List Sh, ((ss.map fun s => !hasNet s).all id) = !hasNetL ss
  | [] => by rw [hasNetL]; rfl
  | s :: ss => by
    rw [hasNetL, List.map_cons, List.all_cons, netl_all ss, Bool.not_or]
    rfl
/-! ### webs in the heap -/
structure WebB (C aO aS : Addr) (H : Hp) (x : Addr) (s : Sh) : Prop where
  at_ : ∃ dx v q, H x = some (.ins C dx [("shape", v), ("laid_links", .ref q)]) ∧ ShV (.pr aO aS) H s v ∧ LinksT H q (linksB s)
  ok : Nrm s
  few : siz s ≤ 14
section
variable {C aO aS : Addr} {H H' : Hp} {x : Addr} {s : Sh}
theorem WebB.st (W : WebB C aO aS H x s) (t : StT H H') (k : ∀ dx fs, H x = some (.ins C dx fs) → H' x = some (.ins C dx fs)) : WebB C aO aS H' x s := by
  obtain ⟨dx, v, q, e, f, l⟩ := W.at_
  exact ⟨⟨dx, v, q, k _ _ e, f.st (StF.p t), l.st t⟩, W.ok, W.few⟩
theorem WebB.same (W : WebB C aO aS H x s) (t : Same H H') : WebB C aO aS H' x s := W.st (.same t) fun _ _ e => t _ _ e
theorem WebB.lay (W : WebB C aO aS H x s) : Lay 19 s := ⟨W.ok, by have := dep_siz s W.ok; have := W.few; omega, by have := W.few; omega⟩
theorem WebB.links (W : WebB C aO aS H x s) : (∀ l ∈ linksB s, Lok l) ∧ (linksB s).length < 64 := ⟨linksB_ok W.ok W.few, by rw [linksB_len]; have := W.few; omega⟩
end
def spNetlC (F : Frm) (d : Nat) : Sp := fun vs H Q _ => ∃ v s, vs = [v] ∧ ShV F H s v ∧ Lay d s ∧ ∀ H', Same H H' → Q (.bl (!hasNet s)) H'
def spBInit (C aO aS : Addr) : Sp := fun vs H Q _ => ∃ x dx v s, vs = [.ref x, v] ∧ H x = some (.ins C dx []) ∧ ShV (.pr aO aS) H s v ∧ Nrm s ∧ siz s ≤ 14 ∧ ∀ H', (∀ b o, H b = some o → b ≠ x → H' b = some o) → WebB C aO aS H' x s → Q .non H'
def spBWebOf (C aO aS : Addr) : Sp := fun vs H Q _ => ∃ v s, vs = [v] ∧ ShV (.pr aO aS) H s v ∧ Nrm s ∧ siz s ≤ 14 ∧ ∀ x H', Same H H' → WebB C aO aS H' x s → Q (.ref x) H'
def spBShapeOf (C aO aS : Addr) : Sp := fun vs H Q _ => ∃ x s i, vs = [.ref x, .int i] ∧ WebB C aO aS H x s ∧ ∀ v, ShV (.pr aO aS) H s v → Q v H
def spBLink (C aO aS : Addr) : Sp := fun vs H Q _ => ∃ n, vs = [.str n] ∧ Nm n ∧ ∀ x H', Same H H' → WebB C aO aS H' x (.link n) → Q (.ref x) H'
def spBNet (K : PySem.W.Frag) (C aO aS : Addr) : Sp := fun vs H Q _ => ∃ p xs ls, vs = [.ref p] ∧ (H p = some (.lst xs) ∨ H p = some (.tup xs)) ∧ TLs H xs ls ∧ (∀ l ∈ ls, Lok l) ∧ ls.length ≤ 14 ∧ ∀ x H', Same H H' → WebB C aO aS H' x (netB ls) → Q (.ref x) H'
def Webs (C aO aS : Addr) (H : Hp) : List V → List Sh → Prop := Paired fun v s => ∃ x, v = .ref x ∧ WebB C aO aS H x s
def spBComp (C aO aS : Addr) (r : Bool) : Sp := fun vs H Q _ => ∃ ss, Webs C aO aS H vs ss ∧ vs.length ≤ 20 ∧ sizL ss ≤ 14 ∧ ∀ x H', Same H H' → WebB C aO aS H' x (compS r ss) → Q (.ref x) H'
def spBTwo (C aO aS : Addr) (r : Bool) : Sp := fun vs H Q _ => ∃ x y s t, vs = [.ref x, .ref y] ∧ WebB C aO aS H x s ∧ WebB C aO aS H y t ∧ siz s + siz t ≤ 14 ∧ ∀ z H', Same H H' → WebB C aO aS H' z (compS r [s, t]) → Q (.ref z) H'
def spBUnit (C aO aS : Addr) (s : Sh) : Sp := fun vs H Q _ => vs = [] ∧ ∀ x H', Same H H' → WebB C aO aS H' x s → Q (.ref x) H'
def spBKind (C aO aS : Addr) : Sp := fun vs H Q _ => ∃ x s, vs = [.ref x] ∧ WebB C aO aS H x s ∧ Q (.str (kindB s)) H
def spBParts (C aO aS : Addr) : Sp := fun vs H Q _ => ∃ x s, vs = [.ref x] ∧ WebB C aO aS H x s ∧ ∀ p H' vs, Same H H' → H' p = some (.tup vs) → Webs C aO aS H' vs (match s with | .node _ ps => ps | _ => []) → Q (.ref p) H'
def spBLinks (C aO aS : Addr) : Sp := fun vs H Q _ => ∃ x s, vs = [.ref x] ∧ WebB C aO aS H x s ∧ ∀ q, LinksT H q (linksB s) → Q (.ref q) H
def spBNames (C aO aS : Addr) : Sp := fun vs H Q _ => ∃ x s, vs = [.ref x] ∧ WebB C aO aS H x s ∧ ∀ p H', Same H H' → H' p = some (.tup ((onceS (nmS s)).map V.str)) → Q (.ref p) H'
def spBPlain (C aO aS : Addr) : Sp := fun vs H Q _ => ∃ x s, vs = [.ref x] ∧ WebB C aO aS H x s ∧ ∀ H', Same H H' → Q (.bl (decide ((onceS (nmS s)).length = siz s))) H'
def spBTied (C aO aS : Addr) : Sp := fun vs H Q _ => ∃ x s, vs = [.ref x] ∧ WebB C aO aS H x s ∧ ∀ H', Same H H' → Q (.bl (!hasNet s)) H'
def spBLen (C aO aS : Addr) : Sp := fun vs H Q _ => ∃ x s, vs = [.ref x] ∧ WebB C aO aS H x s ∧ Q (.int (siz s : Nat)) H
def spBAbs (C aO aS : Addr) : Sp := fun vs H Q _ => ∃ x s, vs = [.ref x] ∧ WebB C aO aS H x s ∧ ∀ H', Same H H' → Q (.int ((onceS (nmS s)).length : Nat)) H'
def spBEq (C aO aS : Addr) : Sp := fun vs H Q _ => ∃ x y s t, vs = [.ref x, .ref y] ∧ WebB C aO aS H x s ∧ WebB C aO aS H y t ∧ Q (.bl (decide (s = t))) H
def spBStr (C aO aS : Addr) : Sp := fun vs H Q _ => ∃ x s, vs = [.ref x] ∧ WebB C aO aS H x s ∧ ∀ H', Same H H' → Q (.str (shown s)) H'
end RR
set_option maxHeartbeats 4000000
namespace RR
open PySem PySem.Spec PyProof.Rows L2
open LamX
/-! ### duals, and ends exchanged -/
mutual
def dualS : Sh → Sh
  | .link n => .link n
  | .net ls => .net ls
  | .node r ps => .node (!r) (dualL ps)
  | .opn => .shut
  | .shut => .opn
def dualL : List Sh → List Sh
  | [] => []
  | s :: ss => dualS s :: dualL ss
end
def swJ (j : Int) : Int := if j = 0 then 1 else if j = 1 then 0 else j
def swL (l : Lk) : Lk := (l.1, swJ l.2.1, swJ l.2.2)
mutual
def flipS : Sh → Sh
  | .link n => .link n
  | .net ls => netB (ls.map swL)
  | .node r ps => .node r (if r = true then (flipL ps).reverse else flipL ps)
  | .opn => .opn
  | .shut => .shut
def flipL : List Sh → List Sh
  | [] => []
  | s :: ss => flipS s :: flipL ss
end
/-! normal shapes stay so -/
/-! sizes -/
/-! through rows and bunches -/
end RR
set_option maxHeartbeats 4000000
namespace RR
open PySem PySem.Spec PyProof.Rows L2
open LamX
/-! ### t[::-1], t a tuple -/
section
variable {prog : Program} {w : World} {A : Around} {E : Value → Shared → Prop} {s : Shared}
theorem places_back (n : Nat) : Builtin.Slice.slicePlaces ((n : Int) - 1) (-1) (-1) = n := by
  unfold Builtin.Slice.slicePlaces
  rw [if_neg (by decide), show (- -1 : Int) = 1 from by decide, Int.ediv_one]
  split <;> omega
theorem slice_back {sl : Addr} {vl vu vs : Value} {n : Nat} {Q : Int × Int × Nat → Shared → Prop} (hs : s.heap.IsSliceOf sl vl vu vs) (pl : IsPart vl none) (pu : IsPart vu none) (ps : IsPart vs (some (-1))) (h : Q ((n : Int) - 1, -1, n) s) :
    wpAny (model prog w) A (Builtin.Slice.sliceApplied (.ref sl) (pure (n : Int))) Q E s := by
  obtain ⟨o, ho, _, hd⟩ := id hs
  unfold Builtin.Slice.sliceApplied Builtin.Slice.sliceFields
  refine wpAny_bind (wpAny_bind (wpAny_field ho hd (x := vl) rfl (wpAny_bind (wpAny_field ho hd (x := vu) rfl (wpAny_bind (wpAny_field ho hd (x := vs) rfl (wpAny_pure ?_)))))))
  refine wpAny_bind (HT.slicePart_ ps ?_)
  show wpAny _ _ (if ((-1 : Int) == 0) = true then _ else _) _ _ s
  rw [if_neg (by decide)]
  refine wpAny_bind (HT.slicePart_ pl (wpAny_bind (HT.slicePart_ pu (wpAny_bind (wpAny_pure ?_)))))
  show wpAny _ _ (pure ((n : Int) - 1, (-1 : Int), Builtin.Slice.slicePlaces ((n : Int) - 1) (-1) (-1))) _ _ s
  rw [places_back]
  exact wpAny_pure h
theorem fm_same {α β : Type} {f g : α → Option β} : ∀ {l : List α}, (∀ k ∈ l, f k = g k) → l.filterMap f = l.filterMap g
  | [], _ => rfl
  | x :: l, h => by rw [List.filterMap_cons, List.filterMap_cons, h x (.head _), fm_same fun k hk => h k (.tail _ hk)]
theorem pick_back (xs : Array Value) : ((List.range xs.size).filterMap fun (m : Nat) => xs[(((xs.size : Int) - 1) + (m : Int) * (-1)).toNat]?).toArray = xs.toList.reverse.toArray := by
  have e : ((List.range xs.size).filterMap fun (m : Nat) => xs[(((xs.size : Int) - 1) + (m : Int) * (-1)).toNat]?) = ((List.range xs.size).map fun k => xs.size - 1 - k).filterMap (xs[·]?) := by
    rw [List.filterMap_map]
    refine fm_same fun k hk => ?_
    have := List.mem_range.mp hk
    show xs[_]? = xs[xs.size - 1 - k]?
    congr 1
    omega
  rw [e, PySem.W.krv_range, List.filterMap_reverse, PySem.W.krv_all]
theorem item_back {t sl : Addr} {items : Array Value} {vl vu vs : Value} {Q : Value → Shared → Prop} (ht : IsTup s.heap t items) (hs : s.heap.IsSliceOf sl vl vu vs) (pl : IsPart vl none) (pu : IsPart vu none) (ps : IsPart vs (some (-1)))
    (h : Q (.ref s.heap.objs.size) { s with heap := s.heap.push { cls := .type "tuple", data := .seq items.toList.reverse.toArray } }) (hz : items.size ≤ sizeLine) : wpAny (model prog w) A (getItem (.ref t) (.ref sl)) Q E s := by
  have fit : sizeOk (.seq items.toList.reverse.toArray) := by
    show items.toList.reverse.toArray.size ≤ sizeLine
    rw [List.size_toArray, List.length_reverse, Array.length_toList]
    exact hz
  obtain ⟨o, ho, hc, hd⟩ := id hs
  have isS : s.TypeIs (.ref sl) "slice" := ⟨o, ho, hc⟩
  unfold getItem
  try with_reducible refine wpAny_holding ?_
  first | refine wpAny_bind (wpAny_pure ?_) | skip
  refine wpAny_bind (wpAny_sequenceKey ht.typeIs (by decide) ?_)
  refine wpAny_bind (wpAny_callSpecial?_slot (name := Str.ofString "__getitem__") ht.typeIs PyProof.Rows.slot_tuple_getitem (wpAny_call_entry PyProof.Rows.slot_tuple_getitem ht.typeIs PyProof.Rows.entry_tuple_getitem ?_ (PyProof.Rows.args_tuple_getitem _ _)))
  show wpAny _ _ (Builtin.Tuple.tupleItemsOf (.ref t) >>= _) _ _ s
  refine wpAny_bind (tupleItemsOf_ ht ?_)
  refine wpAny_bind (wpAny_typeOf isS ?_)
  rw [if_pos (by decide)]
  refine wpAny_bind (slice_back hs pl pu ps ?_)
  have no : ¬ ((((items.size : Int) - 1) == 0 && (-1 : Int) == 1 && items.size == items.size) = true) := by
    rw [show ((-1 : Int) == 1) = false from by decide, Bool.and_false, Bool.false_and]
    exact Bool.false_ne_true
  show wpAny _ _ (if (((items.size : Int) - 1) == 0 && (-1 : Int) == 1 && items.size == items.size) = true then _ else _) _ _ s
  rw [if_neg no, pick_back]
  first
    | exact wpAny_bind (m := Builtin.Tuple.tupleExact _) (wpAny_newObj_type (wpAny_pure ⟨_, rfl, wpAny_pure h⟩) fit)
    | exact wpAny_bind (m := Builtin.Tuple.tupleExact _) (wpAny_newObj_type (wpAny_bind (wpAny_pure (wpAny_pure ⟨_, rfl, wpAny_pure h⟩))) fit)
    | exact wpAny_bind (wpAny_bind (m := Builtin.Tuple.tupleExact _) (wpAny_newObj_type (wpAny_pure (wpAny_pure ⟨_, rfl, wpAny_pure h⟩)) fit))
    | exact wpAny_bind (wpAny_bind (m := Builtin.Tuple.tupleExact _) (wpAny_newObj_type (wpAny_pure ⟨_, rfl, wpAny_pure h⟩) fit))
end
section
variable {X : Cx}
def tRevT (K : PySem.W.Frag) (te : TE) : TE := fun σ H Q => te σ H fun x H1 => ∃ a xs, x = .ref a ∧ SqT K H1 a xs ∧ ∀ p, H1 p = none → Q (.ref p) (upd H1 p (.tup xs.reverse))
theorem pe_revT {e : Expr} {te : TE} {k : Nat} {p1 p2 p3 pos : Pos} (he : PE X e te) : PE X (.Subscript e (.Slice none none (some (.UnaryOp .USub (.Constant (.int 1) k p1) p2)) p3) pos) (tRevT X.K te) := by
  refine ⟨fun pins s σ H Q I h => ?_⟩
  refine Subscript_ (thn (he.run pins s σ H _ I h) fun v s1 ⟨x, H1, I1, r1, q1⟩ => ?_)
  obtain ⟨a, xs, ex, hx, q⟩ := q1
  subst ex
  cases r1
  have step : PO X (some (.UnaryOp .USub (.Constant (.int 1) k p1) p2)) (tPart (tUn (rU fun i => .int (-i)) (tC (.int 1)))) := po_some (pe_un un_neg pe_int)
  refine wpAny_Slice (thn (po_none.run pins s1 σ H1 (fun o H2 => o = none ∧ H2 = H1) I1 ⟨rfl, rfl⟩) fun vl s2 ⟨l, H2, I2, pl, el, e2⟩ => ?_)
  subst el e2
  refine thn (po_none.run pins s2 σ H2 (fun o H3 => o = none ∧ H3 = H2) I2 ⟨rfl, rfl⟩) fun vu s3 ⟨u, H3, I3, pu, eu, e3⟩ => ?_
  subst eu e3
  refine thn (step.run pins s3 σ H3 (fun o H4 => o = some (-1) ∧ H4 = H3) I3 ⟨1, rfl, -1, rfl, rfl, rfl⟩) fun vs s4 ⟨o, H4, I4, ps, eo, e4⟩ => ?_
  subst eo e4
  have I5 : Inv X pins σ H4 { s4 with heap := s4.heap.push { cls := .type "slice", data := .fields #[vl, vu, vs] } } := I4.kept (t' := s4.toks) fun b ob q => Heap.get?_push_of_some _ q
  obtain ⟨its, r, ht, hz⟩ := I5.tuple hx
  have len := r.length
  show wpAny (model X.prog X.w) X.A (subscriptTail e (.Slice none none (some (.UnaryOp .USub (.Constant (.int 1) k p1) p2)) p3) (.ref a) (.ref s4.heap.objs.size)) (EP X pins σ Q) X.xe { s4 with heap := s4.heap.push { cls := .type "slice", data := .fields #[vl, vu, vs] } }
  refine tail_any (ops := [.ref a, .ref s4.heap.objs.size]) ht.typeIs (PyProof.Rows.slot_tuple_getitem.lookup) ?_ (by with_unfolding_all rfl)
  refine item_back ht (Heap.IsSliceOf.new _ vl vu vs) pl pu ps ?_ (by rw [List.size_toArray]; omega)
  refine ⟨.ref _, _, I5.laid (t' := s4.toks) (o := .tup xs.reverse) (fun b ob q => Heap.get?_push_of_some _ q) (Nat.le_refl _) ?_, rfl, q _ (I5.hok.fresh (Nat.le_refl _))⟩
  exact ⟨by rw [List.length_reverse]; exact hz, _, r.reverse, IsTup.new _ _⟩
end
def spDualB (F : Frm) (d : Nat) : Sp := fun vs H Q _ => ∃ v s, vs = [v] ∧ ShV F H s v ∧ Lay d s ∧ hasNet s = false ∧ ∀ u H', Same H H' → ShV F H' (dualS s) u → Q u H'
def spFlipB (F : Frm) (d : Nat) : Sp := fun vs H Q _ => ∃ v s, vs = [v] ∧ ShV F H s v ∧ Lay d s ∧ ∀ u H', Same H H' → ShV F H' (flipS s) u → Q u H'
def spBInv (C aO aS NT : Addr) : Sp := fun vs H Q E => ∃ x s, vs = [.ref x] ∧ WebB C aO aS H x s ∧ ((hasNet s = true ∧ ∀ H', Same H H' → E (.ref NT) none H') ∨ (hasNet s = false ∧ ∀ z H', Same H H' → WebB C aO aS H' z (dualS s) → Q (.ref z) H'))
def spBNeg (C aO aS : Addr) : Sp := fun vs H Q _ => ∃ x s, vs = [.ref x] ∧ WebB C aO aS H x s ∧ ∀ z H', Same H H' → WebB C aO aS H' z (flipS s) → Q (.ref z) H'
end RR
set_option maxHeartbeats 4000000
namespace RR
open PySem PySem.Spec PyProof.Rows L2
open LamX
/-! ### what is new in a heap, beside what was shared -/
noncomputable def ext (G H H' : Hp) : Hp := fun a => open Classical in if H a = none then H' a else G a
def delA (H : Hp) (D : Addr) : Hp := fun a => if a = D then none else H a
/-! ### plans that are drawn -/
structure NmsAt (H : Hp) (l : Addr) (ws : List Str) : Prop where
  at_ : H l = some (.lst (ws.map V.str))
  ok : ∀ w ∈ ws, Nm w
  lo : 1 ≤ ws.length
  hi : ws.length ≤ 12
def spWordsM : Sp := fun vs H Q _ => ∃ p c ns a g m, vs = [.ref p, .int m] ∧ PenAt H p c ns a g ∧ a ≤ 90000 ∧ 1 ≤ m ∧ m ≤ 12 ∧
  ∀ l ws a' g' H', H' p = some (pen c a' g') → Keep p H H' → H l = none → NmsAt H' l ws → a ≤ a' → a' ≤ a + 20 → Q (.ref l) H'
noncomputable def fresh (H H' : Hp) : Hp := ext (fun _ => none) H H'
def spNetL : Sp := fun vs H Q _ => ∃ p c ns a g l ws room, vs = [.ref p, .ref l, .int room] ∧ PenAt H p c ns a g ∧ a ≤ 99000 ∧ NmsAt H l ws ∧ 1 ≤ room ∧ room ≤ 14 ∧
  ∀ v ls a' g' H', H' p = some (pen c a' g') → Keep p H H' → ShV .pl (fresh H H') (.net ls) v → Pln (.net ls) → 1 ≤ ls.length → (ls.length : Int) ≤ room → a ≤ a' → a' ≤ a + 2 + 3 * ((ls.length : Nat) : Int) → Q v H'
/-! each net has a link; no more parts than fifty -/
mutual
def Full : Sh → Prop
  | .net ls => ls ≠ []
  | .node _ ps => ps.length ≤ 50 ∧ FullL ps
  | .link _ => True
  | .opn => True
  | .shut => True
def FullL : List Sh → Prop
  | [] => True
  | s :: ss => Full s ∧ FullL ss
end
/-- how many draws at most, by the depth, the links of nets aside -/
def drw : Nat → Int
  | 0 => 3
  | d + 1 => 7 + 4 * drw d
/-- a plan of at most so many places -/
structure PlnOk (s : Sh) (room d : Nat) : Prop where
  pln : Pln s
  full : Full s
  dp : dep s ≤ d
  sz : siz s ≤ room
def spPlanL (d : Nat) : Sp := fun vs H Q _ => ∃ p c ns a g l ws room deep, vs = [.ref p, .ref l, .int ((room : Nat) : Int), .int ((deep : Nat) : Int)] ∧ deep < d ∧ deep ≤ 5 ∧ PenAt H p c ns a g ∧ a + drw deep + 3 * ((room : Nat) : Int) ≤ 90000 ∧ NmsAt H l ws ∧ 1 ≤ room ∧ room ≤ 14 ∧
  ∀ v s a' g' H', H' p = some (pen c a' g') → Keep p H H' → ShV .pl (fresh H H') s v → PlnOk s room deep → a ≤ a' → a' ≤ a + drw deep + 3 * ((siz s : Nat) : Int) → Q v H'
/-- a shape that may be read -/
def Rd_ (d : Nat) (s : Sh) : Prop := Full s ∧ dep s < d ∧ siz s ≤ 1000
def spSizeL (d : Nat) : Sp := fun vs H Q _ => ∃ v s, vs = [v] ∧ ShV .pl H s v ∧ Rd_ d s ∧ ∀ H', Same H H' → Q (.int ((siz s : Nat) : Int)) H'
end RR
set_option maxHeartbeats 4000000
namespace RR
open PySem PySem.Spec PyProof.Rows L2
open LamX
/-! the promises of what reads plans -/
structure JFew (r : Bool) (ss : List Sh) : Prop where
  len : ss.length ≤ 60
  fl : (flat r ss).length ≤ 10000
  each : ∀ s ∈ ss, Nrm s ∧ dep s ≤ 18
def spJoinL : Sp := fun vs H Q _ => ∃ r l xs ss G, vs = [.str (kn r), .ref l] ∧ H l = some (.lst xs) ∧ Same G H ∧ ShVs .pl G ss xs ∧ JFew r ss ∧ ∀ u H', Same H H' → ShV .pl (ext G H H') (compS r ss) u → Q u H'
def spRowsM : Sp := fun vs H Q _ => ∃ l ls, vs = [.ref l] ∧ LksAt H l ls ∧ ∀ r zs H', Same H H' → H r = none → H' r = some (.lst zs) → TLs (fresh H H') zs (ordL ls) → Q (.ref r) H'
def spNettedL : Sp := fun vs H Q _ => ∃ l ls, vs = [.ref l] ∧ LksAt H l ls ∧ ∀ u H', Same H H' → ShV .pl (fresh H H') (netB ls) u → Q u H'
def spMadeL (d : Nat) : Sp := fun vs H Q _ => ∃ v s G, vs = [v] ∧ Same G H ∧ ShV .pl G s v ∧ Pln s ∧ Rd_ d s ∧ siz s ≤ 14 ∧ dep s ≤ 17 ∧ ∀ u H', Same H H' → ShV .pl (ext G H H') (madeS s) u → Q u H'
def spShownL (d : Nat) : Sp := fun vs H Q _ => ∃ v s, vs = [v] ∧ ShV .pl H s v ∧ Lay d s ∧ ∀ H', Same H H' → Q (.str (shown s)) H'
def spWebL (C aO aS : Addr) (d : Nat) : Sp := fun vs H Q _ => ∃ v s, vs = [v] ∧ ShV .pl H s v ∧ Pln s ∧ Rd_ d s ∧ siz s ≤ 14 ∧ ∀ x H', Same H H' → WebB C aO aS H' x (madeS s) → Q (.ref x) H'
/-- fresh numbers are counted in the list at fr -/
def spBetwL (d : Nat) : Sp := fun vs H Q _ => ∃ v s l r fr f, vs = [v, .int l, .int r, .ref fr] ∧ ShV .pl H s v ∧ Lay d s ∧ H fr = some (.lst [.int f]) ∧ 0 ≤ f ∧ f + 200 * ((siz s : Nat) : Int) ≤ 50000 ∧
  ∀ p ys H', Keep fr H H' → H p = none → H' fr = some (.lst [.int (layS s l r f).2]) → H' p = some (.lst ys) → TLs H' ys (layS s l r f).1 → Q (.ref p) H'
def spLinksL : Sp := fun vs H Q _ => ∃ v s, vs = [v] ∧ ShV .pl H s v ∧ Lay 19 s ∧ siz s ≤ 14 ∧ ∀ p ys H', Same H H' → H' p = some (.lst ys) → TLs H' ys (linksB s) → Q (.ref p) H'
end RR
set_option maxHeartbeats 4000000
namespace RR
open PySem PySem.Spec PyProof.Rows L2
open LamX
/-! the joints of a net but its ends, in order, found another way -/
def inner2 (ls : List Lk) : List Int := (srtI ((ls.map fun l => l.2.1) ++ ls.map fun l => l.2.2)).filter fun j => decide (1 < j)
end RR
set_option maxHeartbeats 4000000
namespace RR
open PySem PySem.Spec PyProof.Rows L2
open LamX
section
variable {X : Cx} {CX : CXT} {C f : Addr} {n : Nat} {g : Sp} {E : XK}
end
/-! a net told by its first name -/
mutual
def tiedS : Sh → Sh
  | .net ls => match ls with | [] => .shut | l :: _ => .link l.1
  | .node r ps => .node r (tiedL ps)
  | .link n => .link n
  | .opn => .opn
  | .shut => .shut
def tiedL : List Sh → List Sh
  | [] => []
  | s :: ss => tiedS s :: tiedL ss
end
structure TiedOk (s : Sh) : Prop where
  pln : Pln (tiedS s)
  full : Full (tiedS s)
  dp : dep (tiedS s) ≤ dep s
  sz : siz (tiedS s) ≤ siz s
/-! promises -/
def spHasL (d : Nat) : Sp := fun vs H Q _ => ∃ v s, vs = [v] ∧ ShV .pl H s v ∧ Lay d s ∧ dep s ≤ 18 ∧ ∀ H', Same H H' → Q (.bl (hasNet s)) H'
def spDualL (d : Nat) : Sp := fun vs H Q _ => ∃ v s G, vs = [v] ∧ Same G H ∧ ShV .pl G s v ∧ Lay d s ∧ hasNet s = false ∧ ∀ u H', Same H H' → ShV .pl (ext G H H') (dualS s) u → Q u H'
def spBackL (d : Nat) : Sp := fun vs H Q _ => ∃ v s G, vs = [v] ∧ Same G H ∧ ShV .pl G s v ∧ Lay d s ∧ siz s ≤ 14 ∧ ∀ u H', Same H H' → ShV .pl (ext G H H') (flipS s) u → Q u H'
def spTiedL (d : Nat) : Sp := fun vs H Q _ => ∃ v s G, vs = [v] ∧ Same G H ∧ ShV .pl G s v ∧ Full s ∧ dep s < d ∧ ∀ u H', Same H H' → ShV .pl (ext G H H') (tiedS s) u → Q u H'
def swD (l0 r0 : Int) : List (Key × V) := mergeK [] [(.inl 0, .int 1), (.inl 1, .int 0)]
end RR
set_option maxHeartbeats 4000000
namespace RR
open PySem PySem.Spec PyProof.Rows L2
open LamX
/-! ### joints that become one -/
abbrev Edg := List (Int × Int)
inductive Con (E : Edg) : Int → Int → Prop
  | refl (a : Int) : Con E a a
  | step {a b c : Int} : (a, b) ∈ E ∨ (b, a) ∈ E → Con E b c → Con E a c
theorem Con.trans {E : Edg} {a b c : Int} (h : Con E a b) (k : Con E b c) : Con E a c := by
  induction h with
  | refl => exact k
  | step e _ ih => exact .step e (ih k)
theorem Con.one {E : Edg} {a b : Int} (h : (a, b) ∈ E ∨ (b, a) ∈ E) : Con E a b := .step h (.refl b)
theorem Con.symm {E : Edg} {a b : Int} (h : Con E a b) : Con E b a := by
  induction h with
  | refl => exact .refl _
  | step e _ ih => exact ih.trans (.one e.symm)
/-- labels: not above the joint, of the same piece -/
structure Lab (E : Edg) (f : Int → Int) : Prop where
  le : ∀ j, f j ≤ j
  con : ∀ j, Con E j (f j)
def Even_ (E : Edg) (f : Int → Int) : Prop := ∀ p ∈ E, f p.1 = f p.2
/-- one link: both get the lesser label -/
def low2 (f : Int → Int) (p : Int × Int) : Int → Int := fun j => if j = p.1 ∨ j = p.2 then min (f p.1) (f p.2) else f j
def pass (E : Edg) (f : Int → Int) : Int → Int := E.foldl low2 f
def passes (E : Edg) : Nat → Int → Int
  | 0 => id
  | n + 1 => pass E (passes E n)
/-! after as many passes as links the labels are even -/
/-- the joints that are within n steps of m -/
def near (E : Edg) (m : Int) : Nat → Int → Prop
  | 0, j => j = m
  | n + 1, j => near E m n j ∨ ∃ p ∈ E, (near E m n p.1 ∧ j = p.2) ∨ (near E m n p.2 ∧ j = p.1)
/-- how many links lie within -/
noncomputable def inside (E : Edg) (m : Int) (n : Nat) : Nat := open Classical in (E.filter fun p => decide (near E m n p.1 ∧ near E m n p.2)).length
def least (E : Edg) : Int → Int := passes E E.length
end RR
set_option maxHeartbeats 4000000
namespace RR
open PySem PySem.Spec PyProof.Rows L2
open LamX
/-! ### nets with a name taken out, or made sure -/
def edg (x : Str) (ls : List Lk) : Edg := (ls.filter fun l => decide (l.1 = x)).map fun l => (l.2.1, l.2.2)
def restN (x : Str) (ls : List Lk) : List Lk := ls.filter fun l => !decide (l.1 = x)
def relab (f : Int → Int) (l : Lk) : Lk := (l.1, f l.2.1, f l.2.2)
def sureN (x : Str) (ls : List Lk) : Sh := if least (edg x ls) 1 = 0 then .opn else netB ((restN x ls).map (relab (least (edg x ls))))
def mrg (low high t : Int) : Int := if t = high then low else t
/-- the rows while links of a name are merged one by one -/
structure Mrg (x : Str) (ls rows : List Lk) (f : Int → Int) (pend : List Lk) : Prop where
  perm : rows.Perm ((restN x ls ++ pend).map fun l => norm (relab f l))
  sub : ∀ l ∈ pend, l ∈ ls ∧ l.1 = x
  lab : Lab (edg x ls) f
  done : ∀ l ∈ ls, l.1 = x → l ∈ pend ∨ f l.2.1 = f l.2.2
  one : f 1 = 1
  lo : ∀ j, 0 ≤ j → 0 ≤ f j
theorem erase_perm {α : Type} : ∀ {l : List α} {j : Nat} {h : α}, l[j]? = some h → l.Perm (h :: l.eraseIdx j)
  | a :: l, 0, h, e => by cases e; exact .refl _
  | a :: l, j + 1, h, e => by
    have := erase_perm (l := l) (j := j) (h := h) e
    exact (this.cons a).trans (.swap _ _ _)
end RR
set_option maxHeartbeats 4000000
namespace RR
open PySem PySem.Spec PyProof.Rows L2
open LamX
/-! ### what webs come to, held against plans -/
def spSameL (C aO aS : Addr) : Sp := fun vs H Q _ => ∃ x v s, vs = [.ref x, v] ∧ WebB C aO aS H x s ∧ ShV .pl H s v ∧ ∀ H', Same H H' → Q (.bl true) H'
/-! ### an error without a field, and what is heard of it -/
def spErrN (N : Addr) : Sp := fun vs H Q _ => ∃ a, vs = [.ref a] ∧ H a = some (HeldX (.ref N) none a) ∧ ∀ q H2, Same H H2 → H2 q = some (.tup [.str "tied"]) → Q (.ref q) H2
def TTnt (N : Addr) : (XK → Hp → VK → Prop) → Hp → VK → Prop := fun tl H Q => ∀ H0, Same H H0 → ∃ (E' : XK) (Q' : VK), tl E' H0 Q' ∧ (∀ v H1, Q' v H1 → ∀ q H2, Same H1 H2 → H2 q = some (.lst [v]) → Q (.ref q) H2) ∧
  ∀ cls d H1, E' cls d H1 → cls = .ref N ∧ d = none ∧ ∀ q H2, Same H1 H2 → H2 q = some (.tup [.str "tied"]) → Q (.ref q) H2
/-! ### the law's own checks -/
def spRightL (TB : List (Addr × Str)) : Sp := fun vs H Q _ => ∃ v s, vs = [v] ∧ ShV .pl H s v ∧ Pln s ∧ Rd_ 17 s ∧ siz s ≤ 14 ∧ Tabs TB H ∧ ∀ H', ExtN H H' → Tabs TB H' → Q (.bl true) H'
def spJRightL : Sp := fun vs H Q _ => ∃ v u s t, vs = [v, u] ∧ ShV .pl H s v ∧ ShV .pl H t u ∧ (Pln s ∧ Rd_ 17 s ∧ siz s ≤ 14) ∧ (Pln t ∧ Rd_ 17 t ∧ siz t ≤ 14) ∧ ∀ H', Same H H' → Q (.bl true) H'
section
variable {X : Cx}
/-- x is True, x is False, x a truth value -/
def rIsBl (neg : Bool) : R2 := fun x y H Q => ∃ a b, x = .bl a ∧ y = .bl b ∧ Q (.bl (decide (a = b) != neg)) H
end
end RR
set_option maxHeartbeats 4000000
namespace RR
open PySem PySem.Spec PyProof.Rows L2 LamX
/-! ### a text on the left of ==, an instance on the right -/
section
variable {X : Cx} {CX : CXT} {C f : Addr} {n : Nat} {g : Sp} {E : XK}
/-! ### a text == a dict -/
/-! ### x in t, t the texts of names, x data or an instance -/
def rInN (K : PySem.W.Frag) (C : Addr) (g : Sp) (E : XK) : R2 := fun x y H Q => ∃ (p : Addr) (zs : List Str), y = .ref p ∧ SqT K H p (zs.map V.str) ∧ PyData.canLayAll0 (zs.map PyData.str) = true ∧
  ((∃ d, (Dq K H x d ∨ Dp K H x d) ∧ d.canLay0 = true ∧ Q (.bl (zs.any fun z => PyData.eqv (.str z) d)) H) ∨
   (∃ a kvs, x = .ref a ∧ H a = some (.dK kvs) ∧ Q (.bl false) H) ∨
   (∃ a dx fs, x = .ref a ∧ H a = some (.ins C dx fs) ∧ (∀ z ∈ zs, g [.ref a, .str z] H (fun v H' => v = .bl false ∧ H' = H) E) ∧ Q (.bl false) H))
end
mutual
theorem dp_same {K : PySem.W.Frag} {H H' : Hp} (s : Same H H') : ∀ {d : PyData} {v : V}, Dp K H v d → Dp K H' v d
  | _, _, .non => .non
  | _, _, .bl b => .bl b
  | _, _, .int i => .int i
  | _, _, .str x => .str x
  | .list ds, _, .lst e r => .lst (sqL_st s e) (dp_sameA s r)
  | .tuple ds, _, .tup e r => .tup (sqT_st s e) (dp_sameA s r)
theorem dp_sameA {K : PySem.W.Frag} {H H' : Hp} (s : Same H H') : ∀ {ds : List PyData} {vs : List V}, DpAll K H vs ds → DpAll K H' vs ds
  | _, _, .nil => .nil
  | _ :: _, _, .cons a r => .cons (dp_same s a) (dp_sameA s r)
end
/-! ### == with any value, and in, of class Web -/
def spBEqA (K : PySem.W.Frag) (C aO aS : Addr) : Sp := fun vs H Q _ => ∃ x s y, vs = [.ref x, y] ∧ WebB C aO aS H x s ∧ ((∃ a t, y = .ref a ∧ WebB C aO aS H a t ∧ Q (.bl (decide (s = t))) H) ∨ (∃ t, TyX K H y t ∧ PySem.W.kitOne K t (.ref C) = some false ∧ Q (.bl false) H))
def spBHas (K : PySem.W.Frag) (C aO aS : Addr) : Sp := fun vs H Q _ => ∃ x s v, vs = [.ref x, v] ∧ WebB C aO aS H x s ∧
  ((∃ d, (Dq K H v d ∨ Dp K H v d) ∧ d.canLay0 = true ∧ ∀ H', Same H H' → Q (.bl ((onceS (nmS s)).any fun z => PyData.eqv (.str z) d)) H') ∨ (∃ a kvs, v = .ref a ∧ H a = some (.dK kvs) ∧ ∀ H', Same H H' → Q (.bl false) H') ∨ (∃ a t, v = .ref a ∧ WebB C aO aS H a t ∧ ∀ H', Same H H' → Q (.bl false) H'))
theorem strs_lay : ∀ {zs : List Str}, (∀ z ∈ zs, Nm z) → PyData.canLayAll0 (zs.map PyData.str) = true
  | [], _ => rfl
  | z :: zs, h => by
    show (PyData.canLay0 (.str z) && PyData.canLayAll0 (zs.map PyData.str)) = true
    rw [(nm_low (h z (.head _))).lay, strs_lay fun y hy => h y (.tail _ hy)]
    rfl
end RR
set_option maxHeartbeats 4000000
namespace RR
open PySem PySem.Spec PyProof.Rows L2
open LamX
/-! ### a name taken out, or made sure, in each of its places -/
mutual
noncomputable def fillS (b : Bool) (x : Str) : Sh → Sh
  | .link n => if n = x then (if b = true then .opn else .shut) else .link n
  | .net ls => if b = true then sureN x ls else netB (restN x ls)
  | .node r ps => compS r (fillL b x ps)
  | .opn => .opn
  | .shut => .shut
noncomputable def fillL (b : Bool) (x : Str) : List Sh → List Sh
  | [] => []
  | s :: ss => fillS b x s :: fillL b x ss
end
/-! ### parts that may be names; promises that may fail -/
def PartW (C aO aS : Addr) (H : Hp) (v : V) (s : Sh) : Prop := (∃ x, v = .ref x ∧ WebB C aO aS H x s) ∨ ∃ n, v = .str n ∧ Nm n ∧ s = .link n
def Parts (C aO aS : Addr) (H : Hp) : List V → List Sh → Prop := Paired (PartW C aO aS H)
def spXShapeOf (C aO aS : Addr) : Sp := fun vs H Q _ => ∃ v s i, vs = [v, .int i] ∧ PartW C aO aS H v s ∧ ∀ u H', Same H H' → ShV (.pr aO aS) H' s u → Q u H'
/-- made, or too many -/
def Mades (C aO aS TM : Addr) (s : Sh) (H : Hp) (Q : VK) (E : XK) : Prop := (siz s ≤ 14 → ∀ x H', Same H H' → WebB C aO aS H' x s → Q (.ref x) H') ∧ (14 < siz s → Fails TM "most" (.int 14) H E)
def spXWebOf (C aO aS TM : Addr) : Sp := fun vs H Q E => ∃ v s, vs = [v] ∧ ShV (.pr aO aS) H s v ∧ Nrm s ∧ siz s < 64 ∧ dep s < 19 ∧ Mades C aO aS TM s H Q E
def spXComp (C aO aS TM : Addr) (r : Bool) : Sp := fun vs H Q E => ∃ ss, Parts C aO aS H vs ss ∧ vs.length ≤ 20 ∧ sizL ss < 60 ∧ Mades C aO aS TM (compS r ss) H Q E
def spXTwo (C aO aS TM : Addr) (r : Bool) : Sp := fun vs H Q E => ∃ x y s t, vs = [x, y] ∧ PartW C aO aS H x s ∧ PartW C aO aS H y t ∧ Mades C aO aS TM (compS r [s, t]) H Q E
/-- the same with the sides exchanged -/
def spXTwoR (C aO aS TM : Addr) (r : Bool) : Sp := fun vs H Q E => ∃ x y s t, vs = [x, y] ∧ PartW C aO aS H x s ∧ PartW C aO aS H y t ∧ Mades C aO aS TM (compS r [t, s]) H Q E
def spXEnd (K : PySem.W.Frag) (C aO aS NN : Addr) (b : Bool) : Sp := fun vs H Q E => ∃ x s v d, vs = [.ref x, v] ∧ WebB C aO aS H x s ∧ Dq K H v d ∧ d.canLay0 = true ∧
  ((∃ n, v = .str n ∧ n ∈ onceS (nmS s) ∧ ∀ y H', Same H H' → WebB C aO aS H' y (fillS b n s) → Q (.ref y) H') ∨ (((onceS (nmS s)).any fun z => PyData.eqv (.str z) d) = false ∧ Fails NN "name" v H E))
/-! promises of what fills -/
def spMergedB (K : PySem.W.Frag) : Sp := fun vs H Q _ => ∃ v xs ls low high, vs = [v, .int low, .int high] ∧ SqV K H v xs ∧ TLs H xs ls ∧ ls.length < 64 ∧ ∀ p H', Same H H' → LinksT H' p (ordL (ls.map (relab (mrg low high)))) → Q (.ref p) H'
def spMadeSureB (F : Frm) : Sp := fun vs H Q _ => ∃ q ls n, vs = [.ref q, .str n] ∧ LinksT H q ls ∧ (∀ l ∈ ls, Lok l) ∧ ordL ls = ls ∧ ls.length < 64 ∧ ∀ u H', Same H H' → ShV F H' (sureN n ls) u → Q u H'
def spPutNetB (F : Frm) (aS : Addr) : Sp := fun vs H Q _ => ∃ q ls n, vs = [.ref q, .str n, .ref aS] ∧ LinksT H q ls ∧ (∀ l ∈ ls, Lok l) ∧ ls.length < 64 ∧ ∀ u H', Same H H' → ShV F H' (netB (restN n ls)) u → Q u H'
def spPutB (aO aS : Addr) (d : Nat) : Sp := fun vs H Q _ => ∃ v s n b, vs = [v, .str n, .ref (if b = true then aO else aS)] ∧ ShV (.pr aO aS) H s v ∧ Lay d s ∧ ∀ u H', Same H H' → ShV (.pr aO aS) H' (fillS b n s) u → Q u H'
end RR
set_option maxHeartbeats 4000000
namespace RR
open PySem PySem.Spec PyProof.Rows L2 LamX
/-! ### xs.remove(x), data -/
section
variable {X : Cx}
def rRemQ (K : PySem.W.Frag) : V → List V → Hp → VK → Prop := fun x xs H Q => ∃ (l : Addr) (ys : List V) (ds : List PyData) (y : V) (d : PyData) (j : Nat), x = .ref l ∧ xs = [y] ∧ H l = some (.lst ys) ∧ DpAll K H ys ds ∧ Dp K H y d ∧ PyData.canLayAll0 ds = true ∧ d.canLay0 = true ∧ d.depth ≤ 40 ∧
  (∃ dj, ds[j]? = some dj ∧ PyData.eqv dj d = true) ∧ (∀ m dm, m < j → ds[m]? = some dm → PyData.eqv dm d = false) ∧ Q .non (upd H l (.lst (ys.eraseIdx j)))
end
theorem gname_nx {i : Nat} {v : V} {σ : L2.St} {H : Hp} {Q : L2.St → Hp → Prop} (h : Q (σ.set i (some v)) H) : gName i v σ H Q := h
theorem seq_of {t u : TS} {D : Ends} {σ : L2.St} {H : Hp} (h : t { D with nx := u D } σ H) : tSeq t u D σ H := h
/-! links as data -/
end RR
set_option maxHeartbeats 4000000
namespace RR
open PySem PySem.Spec PyProof.Rows L2
open LamX
end RR
set_option maxHeartbeats 4000000
namespace RR
open PySem PySem.Spec PyProof.Rows L2
open LamX
/-! ### a set of names taken out, or made sure -/
def edgL (ns : List Str) (ls : List Lk) : Edg := (ls.filter fun l => decide (l.1 ∈ ns)).map fun l => (l.2.1, l.2.2)
def restT (ns : List Str) (ls : List Lk) : List Lk := ls.filter fun l => !decide (l.1 ∈ ns)
def sureL (ns : List Str) (ls : List Lk) : Sh := if least (edgL ns ls) 1 = 0 then .opn else netB ((restT ns ls).map (relab (least (edgL ns ls))))
mutual
noncomputable def fillT (b : Bool) (ns : List Str) : Sh → Sh
  | .link n => if n ∈ ns then (if b = true then .opn else .shut) else .link n
  | .net ls => if b = true then sureL ns ls else netB (restT ns ls)
  | .node r ps => compS r (fillTL b ns ps)
  | .opn => .opn
  | .shut => .shut
noncomputable def fillTL (b : Bool) (ns : List Str) : List Sh → List Sh
  | [] => []
  | s :: ss => fillT b ns s :: fillTL b ns ss
end
/-! ### labels in a dict -/
structure Lbl (kvs : List (Key × V)) (f : Int → Int) : Prop where
  at_ : ∀ j : Int, 0 ≤ j → j ≤ 99 → valV kvs (Sum.inl j) = some (.int (f j))
  len : kvs.length = 100
theorem putK_same {kvs : List (Key × V)} {k : Key} {v x : V} (h : valV kvs k = some x) : (putK kvs k v).length = kvs.length := by
  unfold putK
  rw [valV_any, h, if_pos (show (some x).isSome = true from rfl), List.length_map]
def pairsN (n : Nat) : List (Key × V) := (List.range n).map fun i => (Sum.inl ((i : Nat) : Int), V.int ((i : Nat) : Int))
theorem inV_nmsX {ns : List Str} {x : Str} : inV (.str x) (ns.map V.str) = decide (x ∈ ns) := by
  unfold inV
  rw [Bool.eq_iff_iff, List.any_eq_true, decide_eq_true_eq]
  constructor
  · rintro ⟨z, hz, e⟩
    obtain ⟨y, hy, rfl⟩ := List.mem_map.mp hz
    have : y = x := by simpa [eqV] using e
    rw [← this]
    exact hy
  · intro h
    exact ⟨.str x, List.mem_map.mpr ⟨x, h, rfl⟩, by simp [eqV]⟩
theorem flat_nmsX : ∀ ns : List Str, (ns.map V.str).all flatV = true
  | [] => rfl
  | x :: ns => by rw [List.map_cons, List.all_cons, flat_nmsX ns]; rfl
/-! promises of the law's defs -/
def spLeastL : Sp := fun vs H Q _ => ∃ l xs ls lw ns, vs = [.ref l, .ref lw] ∧ H l = some (.lst xs) ∧ TLs H xs ls ∧ (∀ k ∈ ls, Lok k) ∧ H lw = some (.lst (ns.map V.str)) ∧
  ∀ D kvs H', Same H H' → H D = none → H' D = some (.dK kvs) → Lbl kvs (least (edgL ns ls)) → Q (.ref D) H'
def unitS (b : Bool) : Sh := if b = true then .opn else .shut
def unitW (b : Bool) : Str := if b = true then "open" else "shut"
def spNetFillL : Sp := fun vs H Q _ => ∃ l xs ls lw ns o b, vs = [.ref l, .ref lw, .ref o] ∧ H l = some (.lst xs) ∧ TLs H xs ls ∧ (∀ k ∈ ls, Lok k) ∧ ls.length ≤ 14 ∧ H lw = some (.lst (ns.map V.str)) ∧ H o = some (.tup [.str (unitW b)]) ∧
  ∀ u H', Same H H' → ShV .pl (fresh H H') (if b = true then sureL ns ls else netB (restT ns ls)) u → Q u H'
def spFillL (d : Nat) : Sp := fun vs H Q _ => ∃ v s lw ns o b G, vs = [v, .ref lw, .ref o] ∧ Same G H ∧ ShV .pl G s v ∧ G o = some (.tup [.str (unitW b)]) ∧ H lw = some (.lst (ns.map V.str)) ∧ Lay d s ∧ siz s ≤ 14 ∧
  ∀ u H', Same H H' → ShV .pl (ext G H H') (fillT b ns s) u → Q u H'
end RR
set_option maxHeartbeats 4000000
namespace RR
open PySem PySem.Spec PyProof.Rows L2
open LamX
/-! ### names taken out, or made sure, one after another -/
theorem con_map {E F : Edg} {f : Int → Int} (h : ∀ p ∈ E, Con F (f p.1) (f p.2)) {a b : Int} (c : Con E a b) : Con F (f a) (f b) := by
  induction c with
  | refl => exact .refl _
  | step e _ ih =>
    rcases e with e | e
    · exact (h _ e).trans ih
    · exact (h _ e).symm.trans ih
theorem con_to {E F : Edg} (h : ∀ p ∈ E, Con F p.1 p.2) {a b : Int} (c : Con E a b) : Con F a b := con_map (f := id) h c
theorem edgL_mem {ns : List Str} {ls : List Lk} {p : Int × Int} : p ∈ edgL ns ls ↔ ∃ l ∈ ls, l.1 ∈ ns ∧ (l.2.1, l.2.2) = p := by
  unfold edgL
  rw [List.mem_map]
  constructor
  · rintro ⟨l, hl, rfl⟩
    exact ⟨l, (List.mem_filter.mp hl).1, of_decide_eq_true (List.mem_filter.mp hl).2, rfl⟩
  · rintro ⟨l, hl, hn, rfl⟩
    exact ⟨l, List.mem_filter.mpr ⟨hl, decide_eq_true hn⟩, rfl⟩
theorem con_lk {ns : List Str} {ls : List Lk} {l : Lk} (h : l ∈ ls) (hn : l.1 ∈ ns) : Con (edgL ns ls) l.2.1 l.2.2 := .one (.inl (edgL_mem.mpr ⟨l, h, hn, rfl⟩))
theorem con_of {ns : List Str} {ls : List Lk} {F : Edg} {f : Int → Int} (h : ∀ l ∈ ls, l.1 ∈ ns → Con F (f l.2.1) (f l.2.2)) {a b : Int} (c : Con (edgL ns ls) a b) : Con F (f a) (f b) :=
  con_map (fun p hp => by
    obtain ⟨l, hl, hn, rfl⟩ := edgL_mem.mp hp
    exact h l hl hn) c
theorem norm_either (l : Lk) : ((norm l).2.1 = l.2.1 ∧ (norm l).2.2 = l.2.2) ∨ ((norm l).2.1 = l.2.2 ∧ (norm l).2.2 = l.2.1) := by
  unfold norm
  split
  · exact .inl ⟨rfl, rfl⟩
  · exact .inr ⟨rfl, rfl⟩
theorem con_ord {ns : List Str} {ls : List Lk} {a b : Int} : Con (edgL ns (ordL ls)) a b ↔ Con (edgL ns ls) a b := by
  constructor
  · refine con_of (f := id) fun l hl hn => ?_
    obtain ⟨m, hm, rfl⟩ := ordL_mem.mp hl
    rw [norm_name] at hn
    have c := con_lk hm hn
    rcases norm_either m with ⟨a, b⟩ | ⟨a, b⟩
    · show Con _ (norm m).2.1 (norm m).2.2
      rw [a, b]
      exact c
    · show Con _ (norm m).2.1 (norm m).2.2
      rw [a, b]
      exact c.symm
  · refine con_of (f := id) fun m hm hn => ?_
    have c := con_lk (ns := ns) (ls := ordL ls) (ordL_mem.mpr ⟨m, hm, rfl⟩) (by rw [norm_name]; exact hn)
    rcases norm_either m with ⟨a, b⟩ | ⟨a, b⟩
    · rw [a, b] at c
      exact c
    · rw [a, b] at c
      exact c.symm
theorem con_names {ns ms : List Str} {ls : List Lk} (h : ∀ n ∈ ns, n ∈ ms) {a b : Int} (c : Con (edgL ns ls) a b) : Con (edgL ms ls) a b := con_of (f := id) (fun _ hl hn => con_lk hl (h _ hn)) c
theorem con_nil {a b : Int} (h : Con [] a b) : a = b := by
  cases h with
  | refl => rfl
  | step e _ => rcases e with e | e <;> cases e
/-! ### .. and rows and bunches of them -/
noncomputable def fillN (b : Bool) (ns : List Str) (s : Sh) : Sh := ns.foldl (fun s n => fillS b n s) s
end RR
set_option maxHeartbeats 4000000
namespace RR
open PySem PySem.Spec PyProof.Rows L2
open LamX
/-! ### whether names join a web: by its links, and part by part -/
mutual
def evS (ns : List Str) : Sh → Prop
  | .link n => n ∈ ns
  | .net ls => Con (edgL ns ls) 0 1
  | .node r ps => evL r ns ps
  | .opn => True
  | .shut => False
def evL (r : Bool) (ns : List Str) : List Sh → Prop
  | [] => r = true
  | p :: ps => if r = true then evS ns p ∧ evL r ns ps else evS ns p ∨ evL r ns ps
end
theorem ev_netB {ns : List Str} {ls : List Lk} : evS ns (netB ls) ↔ Con (edgL ns ls) 0 1 := by
  unfold netB
  by_cases e : ls = []
  · rw [if_pos e, evS, e]
    exact ⟨False.elim, fun h => by have := con_nil (h : Con [] 0 1); omega⟩
  · rw [if_neg e, evS, con_ord]
/-! ### laid links -/
def Jof (E : Edg) (j : Int) : Prop := ∃ p ∈ E, p.1 = j ∨ p.2 = j
theorem con_jof {E : Edg} {a b : Int} (c : Con E a b) : a = b ∨ Jof E b := by
  induction c with
  | refl => exact .inl rfl
  | step e _ ih =>
    rcases ih with rfl | ih
    · rcases e with e | e
      · exact .inr ⟨_, e, .inr rfl⟩
      · exact .inr ⟨_, e, .inl rfl⟩
    · exact .inr ih
theorem con_inv {E : Edg} {c : Int → Prop} (h : ∀ p ∈ E, (c p.1 ↔ c p.2)) {a b : Int} (k : Con E a b) : c a ↔ c b := by
  induction k with
  | refl => exact Iff.rfl
  | step e _ ih =>
    rcases e with e | e
    · exact (h _ e).trans ih
    · exact (h _ e).symm.trans ih
theorem con_left {E F : Edg} {a b : Int} (c : Con E a b) : Con (E ++ F) a b := con_to (fun p hp => .one (.inl (List.mem_append_left _ hp))) c
theorem con_right {E F : Edg} {a b : Int} (c : Con F a b) : Con (E ++ F) a b := con_to (fun p hp => .one (.inl (List.mem_append_right _ hp))) c
theorem con_step {E : Edg} {a : Int} : ∀ p ∈ E, (Con E a p.1 ↔ Con E a p.2) := fun p hp => ⟨fun c => c.trans (.one (.inl hp)), fun c => c.trans (.one (.inr hp))⟩
/-- one behind the other -/
theorem con_series {E F : Edg} {l m r : Int} (lr : l ≠ r) (lm : l ≠ m) (mr : m ≠ r) (hE : ¬ Jof E r) (hF : ¬ Jof F l) (com : ∀ j, Jof E j → Jof F j → j = m) : Con (E ++ F) l r ↔ Con E l m ∧ Con F m r := by
  constructor
  · intro c
    constructor
    · apply Classical.byContradiction
      intro no
      have inv : ∀ p ∈ E ++ F, (Con E l p.1 ↔ Con E l p.2) := fun p hp => by
        rcases List.mem_append.mp hp with hp | hp
        · exact con_step p hp
        · have f1 : ∀ j, Jof F j → ¬ Con E l j := fun j hj k => by
            rcases con_jof k with rfl | z
            · exact hF hj
            · rw [com j z hj] at k
              exact no k
          exact ⟨fun k => absurd k (f1 _ ⟨p, hp, .inl rfl⟩), fun k => absurd k (f1 _ ⟨p, hp, .inr rfl⟩)⟩
      have z := (con_inv inv c).mp (.refl _)
      rcases con_jof z with e | e
      · exact lr e
      · exact hE e
    · apply Classical.byContradiction
      intro no
      have inv : ∀ p ∈ E ++ F, (Con F r p.1 ↔ Con F r p.2) := fun p hp => by
        rcases List.mem_append.mp hp with hp | hp
        · have f1 : ∀ j, Jof E j → ¬ Con F r j := fun j hj k => by
            rcases con_jof k with rfl | z
            · exact hE hj
            · rw [com j hj z] at k
              exact no k.symm
          exact ⟨fun k => absurd k (f1 _ ⟨p, hp, .inl rfl⟩), fun k => absurd k (f1 _ ⟨p, hp, .inr rfl⟩)⟩
        · exact con_step p hp
      have z := (con_inv inv c).mpr (.refl _)
      rcases con_jof z with e | e
      · exact lr e.symm
      · exact hF e
  · rintro ⟨a, b⟩
    exact (con_left a).trans (con_right b)
/-- side by side -/
theorem con_beside {E F : Edg} {l r : Int} (lr : l ≠ r) (com : ∀ j, Jof E j → Jof F j → j = l ∨ j = r) : Con (E ++ F) l r ↔ Con E l r ∨ Con F l r := by
  constructor
  · intro c
    apply Classical.byContradiction
    intro no
    have nE : ¬ Con E l r := fun z => no (.inl z)
    have nF : ¬ Con F l r := fun z => no (.inr z)
    have inv : ∀ p ∈ E ++ F, ((Con E l p.1 ∨ Con F l p.1) ↔ (Con E l p.2 ∨ Con F l p.2)) := fun p hp => by
      rcases List.mem_append.mp hp with hp | hp
      · have to : ∀ j, Jof E j → Con F l j → Con E l j := fun j hj k => by
          rcases con_jof k with rfl | z
          · exact .refl _
          · rcases com j hj z with rfl | rfl
            · exact .refl _
            · exact absurd k nF
        have a := to _ ⟨p, hp, .inl rfl⟩
        have b := to _ ⟨p, hp, .inr rfl⟩
        have s := con_step (a := l) p hp
        exact ⟨fun k => .inl (s.mp (k.elim id a)), fun k => .inl (s.mpr (k.elim id b))⟩
      · have to : ∀ j, Jof F j → Con E l j → Con F l j := fun j hj k => by
          rcases con_jof k with rfl | z
          · exact .refl _
          · rcases com j z hj with rfl | rfl
            · exact .refl _
            · exact absurd k nE
        have a := to _ ⟨p, hp, .inl rfl⟩
        have b := to _ ⟨p, hp, .inr rfl⟩
        have s := con_step (a := l) p hp
        exact ⟨fun k => .inr (s.mp (k.elim a id)), fun k => .inr (s.mpr (k.elim b id))⟩
    have z := (con_inv (c := fun j => Con E l j ∨ Con F l j) inv c).mp (.inl (.refl _))
    exact no z
  · rintro (a | b)
    · exact con_left a
    · exact con_right b
theorem edgL_app (ns : List Str) (a b : List Lk) : edgL ns (a ++ b) = edgL ns a ++ edgL ns b := by
  unfold edgL
  rw [List.filter_append, List.map_append]
theorem jof_lay {ns : List Str} {ls : List Lk} {P : Int → Prop} (h : ∀ k ∈ ls, P k.2.1 ∧ P k.2.2) {j : Int} (hj : Jof (edgL ns ls) j) : P j := by
  obtain ⟨p, hp, e⟩ := hj
  obtain ⟨k, hk, _, rfl⟩ := edgL_mem.mp hp
  rcases e with rfl | rfl
  · exact (h k hk).1
  · exact (h k hk).2
/-- the ends are apart from the inner joints -/
structure Ends3 (l r f : Int) : Prop where
  ne : l ≠ r
  l : l < f
  r : r < f
def EvOk (ns : List Str) (s : Sh) : Prop := ∀ l r f, Ends3 l r f → (Con (edgL ns (layS s l r f).1) l r ↔ evS ns s)
theorem layR_ev {ns : List Str} : ∀ (ps : List Sh), ps ≠ [] → (∀ t ∈ ps, LayOk t) → (∀ t ∈ ps, EvOk ns t) → ∀ l r f, Ends3 l r f → (Con (edgL ns (layR ps l r f).1) l r ↔ evL true ns ps)
  | [], h, _, _, _, _, _, _ => absurd rfl h
  | [p], _, _, ev, l, r, f, e => by
    rw [layR_one, ev p (.head _) l r f e, evL, if_pos rfl, evL]
    simp
  | p :: q :: qs, _, ok, ev, l, r, f, e => by
    have o1 := ok p (.head _)
    have u1 := o1.up l f (f + 1)
    have o2 := layR_ok (q :: qs) (by simp) (fun t ht => ok t (.tail _ ht)) f r (layS p l f (f + 1)).2
    have ih := layR_ev (q :: qs) (by simp) (fun t ht => ok t (.tail _ ht)) (fun t ht => ev t (.tail _ ht)) f r (layS p l f (f + 1)).2 ⟨by have := e.r; omega, by omega, by have := e.r; omega⟩
    have e1 := ev p (.head _) l f (f + 1) ⟨by have := e.l; omega, by have := e.l; omega, by omega⟩
    have jn1 := o1.jn l f (f + 1)
    rw [layR_two, evL, if_pos rfl, ← ih, ← e1]
    show Con (edgL ns (_ ++ _)) l r ↔ _
    rw [edgL_app]
    have el := e.l
    have er := e.r
    have ene := e.ne
    refine con_series ene (by omega) (by omega) (fun z => ?_) (fun z => ?_) fun j z1 z2 => ?_
    · have := jof_lay jn1 z
      unfold Jn at this
      omega
    · have := jof_lay o2.2.2 z
      unfold Jn at this
      omega
    · have a := jof_lay jn1 z1
      have b := jof_lay o2.2.2 z2
      unfold Jn at a b
      omega
theorem layP_ev {ns : List Str} : ∀ (ps : List Sh), (∀ t ∈ ps, LayOk t) → (∀ t ∈ ps, EvOk ns t) → ∀ l r f, Ends3 l r f → (Con (edgL ns (layP ps l r f).1) l r ↔ evL false ns ps)
  | [], _, _, l, r, f, e => by
    rw [layP, evL]
    refine ⟨fun h => ?_, fun h => absurd h (by decide)⟩
    exact absurd (con_nil (h : Con [] l r)) e.ne
  | p :: ps, ok, ev, l, r, f, e => by
    have o1 := ok p (.head _)
    have u1 := o1.up l r f
    have o2 := layP_ok ps (fun t ht => ok t (.tail _ ht)) l r (layS p l r f).2
    have el := e.l
    have er := e.r
    have ih := layP_ev ps (fun t ht => ok t (.tail _ ht)) (fun t ht => ev t (.tail _ ht)) l r (layS p l r f).2 ⟨e.ne, by omega, by omega⟩
    have e1 := ev p (.head _) l r f e
    have jn1 := o1.jn l r f
    rw [layP, evL, if_neg (by decide), ← ih, ← e1]
    show Con (edgL ns (_ ++ _)) l r ↔ _
    rw [edgL_app]
    refine con_beside e.ne fun j z1 z2 => ?_
    have a := jof_lay jn1 z1
    have b := jof_lay o2.2.2 z2
    unfold Jn at a b
    omega
theorem jmap_inj {l r f : Int} {inn : List Int} (e : Ends3 l r f) {i j : Int} (hi : i = 0 ∨ i = 1 ∨ i ∈ inn) (hj : j = 0 ∨ j = 1 ∨ j ∈ inn) (h : jmap l r f inn i = jmap l r f inn j) : i = j := by
  have el := e.l
  have er := e.r
  have ene := e.ne
  unfold jmap at h
  by_cases i0 : i = 0
  · rw [if_pos i0] at h
    by_cases j0 : j = 0
    · omega
    · rw [if_neg j0] at h
      by_cases j1 : j = 1
      · rw [if_pos j1] at h; omega
      · rw [if_neg j1] at h; omega
  · rw [if_neg i0] at h
    by_cases i1 : i = 1
    · rw [if_pos i1] at h
      by_cases j0 : j = 0
      · rw [if_pos j0] at h; omega
      · rw [if_neg j0] at h
        by_cases j1 : j = 1
        · omega
        · rw [if_neg j1] at h; omega
    · rw [if_neg i1] at h
      by_cases j0 : j = 0
      · rw [if_pos j0] at h; omega
      · rw [if_neg j0] at h
        by_cases j1 : j = 1
        · rw [if_pos j1] at h; omega
        · rw [if_neg j1] at h
          have mi : i ∈ inn := (hi.resolve_left i0).resolve_left i1
          have mj : j ∈ inn := (hj.resolve_left j0).resolve_left j1
          have := List.idxOf_lt_length_iff.mpr mi
          have := List.idxOf_lt_length_iff.mpr mj
          have he : inn.idxOf i = inn.idxOf j := by omega
          have a := List.getElem_idxOf (List.idxOf_lt_length_iff.mpr mi)
          have b := List.getElem_idxOf (List.idxOf_lt_length_iff.mpr mj)
          rw [← a, ← b]
          congr 1
theorem mov_ev {ns : List Str} {ls : List Lk} (lok : ∀ l ∈ ls, Lok l) {l r f : Int} (e : Ends3 l r f) : Con (edgL ns (movL ls l r f)) l r ↔ Con (edgL ns ls) 0 1 := by
  have m0 : jmap l r f (innL ls) 0 = l := rfl
  have m1 : jmap l r f (innL ls) 1 = r := rfl
  constructor
  · intro c
    -- the joints to which 0 leads, moved
    have inv : ∀ p ∈ edgL ns (movL ls l r f), ((∃ j, (j = 0 ∨ j = 1 ∨ j ∈ innL ls) ∧ jmap l r f (innL ls) j = p.1 ∧ Con (edgL ns ls) 0 j) ↔ ∃ j, (j = 0 ∨ j = 1 ∨ j ∈ innL ls) ∧ jmap l r f (innL ls) j = p.2 ∧ Con (edgL ns ls) 0 j) := fun p hp => by
      obtain ⟨k', hk', hn, rfl⟩ := edgL_mem.mp hp
      unfold movL at hk'
      obtain ⟨k, hk, rfl⟩ := List.mem_map.mp hk'
      obtain ⟨a, b⟩ := inn_of lok hk
      have ck := con_lk hk hn
      constructor
      · rintro ⟨j, hj, ej, cj⟩
        have := jmap_inj e hj a ej
        subst this
        exact ⟨_, b, rfl, cj.trans ck⟩
      · rintro ⟨j, hj, ej, cj⟩
        have := jmap_inj e hj b ej
        subst this
        exact ⟨_, a, rfl, cj.trans ck.symm⟩
    obtain ⟨j, hj, ej, cj⟩ := (con_inv (c := fun x => ∃ j, (j = 0 ∨ j = 1 ∨ j ∈ innL ls) ∧ jmap l r f (innL ls) j = x ∧ Con (edgL ns ls) 0 j) inv c).mp ⟨0, .inl rfl, m0, .refl _⟩
    have := jmap_inj e hj (.inr (.inl rfl)) (ej.trans m1.symm)
    subst this
    exact cj
  · intro c
    have := con_of (F := edgL ns (movL ls l r f)) (f := jmap l r f (innL ls)) (fun k hk hn => ?_) c
    · rw [m0, m1] at this
      exact this
    · exact con_lk (ls := movL ls l r f) (l := (k.1, jmap l r f (innL ls) k.2.1, jmap l r f (innL ls) k.2.2)) (List.mem_map.mpr ⟨k, hk, rfl⟩) hn
theorem lay_ev {ns : List Str} : ∀ s, Nrm s → s ≠ .opn → s ≠ .shut → EvOk ns s := sh_ind (P := fun s => Nrm s → s ≠ .opn → s ≠ .shut → EvOk ns s) fun s ih n h1 h2 => by
  intro l r f e
  cases s with
  | link m =>
    rw [layS, evS]
    constructor
    · intro c
      rcases con_jof c with z | ⟨p, hp, _⟩
      · exact absurd z e.ne
      · obtain ⟨k, hk, hn, _⟩ := edgL_mem.mp hp
        rw [List.mem_singleton.mp hk] at hn
        exact hn
    · exact fun h => con_lk (l := (m, l, r)) (.head _) h
  | net ls =>
    rw [Nrm] at n
    rw [layS, evS]
    exact mov_ev n.2.1 e
  | node b ps =>
    have n' := nrm_node.mp n
    have ok : ∀ t ∈ ps, LayOk t := fun t ht => lay_ok t (n'.2 t ht).1 (n'.2 t ht).2.1 (n'.2 t ht).2.2.1
    have ev : ∀ t ∈ ps, EvOk ns t := fun t ht => ih t (dep_part ht) (n'.2 t ht).1 (n'.2 t ht).2.1 (n'.2 t ht).2.2.1
    cases b
    · rw [layS, evS]
      exact layP_ev ps ok ev l r f e
    · rw [layS, evS]
      exact layR_ev ps (fun z => by rw [z] at n'; exact absurd n'.1 (by decide)) ok ev l r f e
  | opn => exact absurd rfl h1
  | shut => exact absurd rfl h2
/-- whether names join a web, as the program tells it -/
def joinsB (ns : List Str) (s : Sh) : Prop := s = .opn ∨ Con (edgL ns (linksB s)) 0 1
theorem joins_ev {ns : List Str} {s : Sh} (n : Nrm s) : joinsB ns s ↔ evS ns s := by
  unfold joinsB
  have e3 : Ends3 0 1 2 := ⟨by decide, by decide, by decide⟩
  cases s with
  | opn => rw [evS]; simp
  | shut =>
    rw [evS]
    refine ⟨fun h => ?_, False.elim⟩
    rcases h with h | h
    · cases h
    · have : linksB .shut = [] := by decide +kernel
      rw [this] at h
      have := con_nil (h : Con [] 0 1)
      omega
  | net ls =>
    rw [evS]
    exact ⟨fun h => h.resolve_left (fun z => nomatch z), .inr⟩
  | link m =>
    have z := lay_ev (ns := ns) _ n (fun z => nomatch z) (fun z => nomatch z) 0 1 2 e3
    rw [← z]
    exact ⟨fun h => con_ord.mp (h.resolve_left (fun z => nomatch z)), fun h => .inr (con_ord.mpr h)⟩
  | node b ps =>
    have z := lay_ev (ns := ns) _ n (fun z => nomatch z) (fun z => nomatch z) 0 1 2 e3
    rw [← z]
    exact ⟨fun h => con_ord.mp (h.resolve_left (fun z => nomatch z)), fun h => .inr (con_ord.mpr h)⟩
end RR
set_option maxHeartbeats 4000000
namespace RR
open PySem PySem.Spec PyProof.Rows L2
open LamX
/-! ### errors heard, of any told kinds -/
def spErrG (L : List (Addr × Str × Str)) : Sp := fun vs H Q _ => ∃ a C dd f w x, vs = [.ref a] ∧ (C, f, w) ∈ L ∧ H a = some (HeldX (.ref C) (some dd) a) ∧ H dd = some (.xd [(f, x)]) ∧ ∀ q H2, Same H H2 → H2 q = some (.tup [.str w, x]) → Q (.ref q) H2
def TTgL (L : List (Addr × Str × Str)) : (XK → Hp → VK → Prop) → Hp → VK → Prop := fun tl H Q => ∀ H0, Same H H0 → ∃ (E' : XK) (Q' : VK), tl E' H0 Q' ∧ (∀ v H1, Q' v H1 → ∀ q H2, Same H1 H2 → H2 q = some (.lst [v]) → Q (.ref q) H2) ∧
  ∀ cls d H1, E' cls d H1 → ∃ C f w x dd, (C, f, w) ∈ L ∧ cls = .ref C ∧ d = some dd ∧ H1 dd = some (.xd [(f, x)]) ∧ ∀ q H2, Same H1 H2 → H2 q = some (.tup [.str w, x]) → Q (.ref q) H2
/-! ### a sign in place -/
def signW (r : Bool) : Str := if r = true then "&" else "|"
def signE (b : Bool) : Str := if b = true then "/" else "-"
def spChangedL (K : PySem.W.Frag) (C aO aS TM NN : Addr) : Sp := fun vs H Q E => ∃ x s sg v, vs = [.ref x, .str sg, v] ∧ WebB C aO aS H x s ∧
  ((∃ r t, sg = signW r ∧ PartW C aO aS H v t ∧ Mades C aO aS TM (compS r [s, t]) H Q E) ∨
   (∃ b d, sg = signE b ∧ Dq K H v d ∧ d.canLay0 = true ∧ (v = .non ∨ ∃ z, v = .str z) ∧ ((∃ n, v = .str n ∧ n ∈ onceS (nmS s) ∧ ∀ y H', Same H H' → WebB C aO aS H' y (fillS b n s) → Q (.ref y) H') ∨ (((onceS (nmS s)).any fun z => PyData.eqv (.str z) d) = false ∧ Fails NN "name" v H E))))
/-- what a sign in place is to leave -/
def spDueL : Sp := fun vs H Q _ => ∃ v s sg o, vs = [v, .str sg, o] ∧ ShV .pl H s v ∧ Nrm s ∧ siz s ≤ 14 ∧
  ((∃ r t, sg = signW r ∧ ShV .pl H t o ∧ Nrm t ∧ siz t ≤ 14 ∧ (siz (compS r [s, t]) ≤ 14 → ∀ u H', Same H H' → ShV .pl H' (compS r [s, t]) u → Q u H') ∧ (14 < siz (compS r [s, t]) → ∀ q H', Same H H' → H' q = some (.tup [.str "many", .int 14]) → Q (.ref q) H')) ∨
   (∃ b, sg = signE b ∧ ((∃ n, o = .str n ∧ n ∈ onceS (nmS s) ∧ ∀ u H', Same H H' → ShV .pl H' (fillS b n s) u → Q u H') ∨ ((o = .non ∨ ∃ z, o = .str z ∧ z ∉ onceS (nmS s)) ∧ ∀ q H', Same H H' → H' q = some (.tup [.str "no", o]) → Q (.ref q) H'))))
end RR
set_option maxHeartbeats 4000000
namespace RR
open PySem PySem.Spec PyProof.Rows L2
open LamX
/-! ### o.m() by a positional promise -/
/-! ### promises of names taken out or made sure by the methods -/
def spEachB (C aO aS : Addr) : Sp := fun vs H Q _ => ∃ x s t ns b, vs = [.ref x, .ref t, .ref (if b = true then aO else aS)] ∧ WebB C aO aS H x s ∧ H t = some (.tup (ns.map V.str)) ∧ (∀ n ∈ ns, Nm n) ∧
  ∀ y H', Same H H' → WebB C aO aS H' y (fillN b ns s) → Q (.ref y) H'
def spEachM (C aO aS : Addr) (b : Bool) : Sp := fun vs H Q _ => ∃ x s ns, vs = .ref x :: ns.map V.str ∧ WebB C aO aS H x s ∧ (∀ n ∈ ns, Nm n) ∧ ns.length ≤ 10 ∧
  ∀ y H', Same H H' → WebB C aO aS H' y (fillN b ns s) → Q (.ref y) H'
/-! ### what links lead to -/
def allE (ls : List Lk) : Edg := ls.map fun l => (l.2.1, l.2.2)
theorem allE_edgL (ns : List Str) (ls : List Lk) : allE (ls.filter fun l => decide (l.1 ∈ ns)) = edgL ns ls := rfl
/-- the keys of a dict of joints -/
def KeyI (kvs : List (Key × V)) (j : Int) : Prop := (valV kvs (.inl j)).isSome = true
/-- at most these many keys: the joints are among few -/
structure Fnd (ls : List Lk) (a : Int) (kvs : List (Key × V)) : Prop where
  nd : (kvs.map (·.1)).Nodup
  sub : ∀ k ∈ kvs.map (·.1), ∃ j, k = .inl j ∧ (j = a ∨ j ∈ ls.map (fun l => l.2.1) ∨ j ∈ ls.map (fun l => l.2.2))
  con : ∀ j, KeyI kvs j → Con (allE ls) a j
  st : KeyI kvs a
theorem Fnd.len {ls : List Lk} {a : Int} {kvs : List (Key × V)} (F : Fnd ls a kvs) : kvs.length ≤ 1 + 2 * ls.length := by
  have hs : (kvs.map (·.1)).length ≤ ((a :: (ls.map (fun l => l.2.1) ++ ls.map (fun l => l.2.2))).map (Sum.inl : Int → Key)).length := by
    refine F.nd.length_le_of_subset fun k hk => ?_
    obtain ⟨j, rfl, h⟩ := F.sub k hk
    refine List.mem_map.mpr ⟨j, ?_, rfl⟩
    rcases h with rfl | h | h
    · exact .head _
    · exact .tail _ (List.mem_append_left _ h)
    · exact .tail _ (List.mem_append_right _ h)
  simp only [List.length_map, List.length_cons, List.length_append] at hs
  omega
theorem keyI_put {kvs : List (Key × V)} {i j : Int} {v : V} : KeyI (putK kvs (.inl i) v) j ↔ j = i ∨ KeyI kvs j := by
  unfold KeyI
  rw [valV_put]
  by_cases e : j = i
  · rw [if_pos (by rw [e])]
    simp [e]
  · rw [if_neg (fun z => e (Sum.inl.inj z))]
    simp [e]
theorem putK_keys {kvs : List (Key × V)} {k : Key} {v x : V} (h : valV kvs k = some x) : (putK kvs k v).map (·.1) = kvs.map (·.1) := by
  unfold putK
  rw [valV_any, h, if_pos (show (some x).isSome = true from rfl), List.map_map]
  refine List.map_congr_left fun kv _ => ?_
  show (if kv.1 = k then (kv.1, v) else kv).1 = kv.1
  split <;> rfl
theorem Fnd.put {ls : List Lk} {a j : Int} {kvs : List (Key × V)} {v : V} (F : Fnd ls a kvs) (m : j ∈ ls.map (fun l => l.2.1) ∨ j ∈ ls.map (fun l => l.2.2)) (c : Con (allE ls) a j) : Fnd ls a (putK kvs (.inl j) v) := by
  cases h : valV kvs (.inl j) with
  | some x =>
    exact ⟨by rw [putK_keys h]; exact F.nd, by rw [putK_keys h]; exact F.sub, fun i hi => by
      rcases keyI_put.mp hi with rfl | hi
      · exact c
      · exact F.con i hi, keyI_put.mpr (.inr F.st)⟩
  | none =>
    refine ⟨nd_putK v F.nd h, fun k hk => ?_, fun i hi => ?_, keyI_put.mpr (.inr F.st)⟩
    · rw [putK_new v h, List.map_append] at hk
      rcases List.mem_append.mp hk with hk | hk
      · exact F.sub k hk
      · exact ⟨j, List.mem_singleton.mp hk, .inr m⟩
    · rcases keyI_put.mp hi with rfl | hi
      · exact c
      · exact F.con i hi
theorem putK_ge {kvs : List (Key × V)} {k : Key} {v : V} : kvs.length ≤ (putK kvs k v).length := by
  cases h : valV kvs k with
  | some x => rw [putK_same h]; exact Nat.le_refl _
  | none => rw [putK_new v h, List.length_append]; omega
theorem putK_grow {kvs : List (Key × V)} {k : Key} {v : V} (h : (putK kvs k v).length = kvs.length) : (valV kvs k).isSome = true := by
  cases e : valV kvs k with
  | some x => rfl
  | none =>
    rw [putK_new v e, List.length_append] at h
    have : [(k, v)].length = 1 := rfl
    omega
/-- no link leads out of what is found -/
def Clsd (ls : List Lk) (kvs : List (Key × V)) : Prop := ∀ l ∈ ls, (KeyI kvs l.2.1 ↔ KeyI kvs l.2.2)
theorem Fnd.all {ls : List Lk} {a : Int} {kvs : List (Key × V)} (F : Fnd ls a kvs) (c : Clsd ls kvs) (j : Int) : KeyI kvs j ↔ Con (allE ls) a j := by
  refine ⟨F.con j, fun k => ?_⟩
  refine (con_inv (c := KeyI kvs) (fun p hp => ?_) k).mp F.st
  unfold allE at hp
  obtain ⟨l, hl, rfl⟩ := List.mem_map.mp hp
  exact c l hl
theorem fnd_start {ls : List Lk} {a : Int} {v : V} : Fnd ls a (mergeK [] [(.inl a, v)]) := by
  have e : mergeK ([] : List (Key × V)) [((.inl a : Key), v)] = [(.inl a, v)] := rfl
  rw [e]
  refine ⟨by simp, fun k hk => ?_, fun j hj => ?_, ?_⟩
  · simp only [List.map_cons, List.map_nil, List.mem_singleton] at hk
    exact ⟨a, hk, .inl rfl⟩
  · unfold KeyI at hj
    by_cases z : j = a
    · subst z; exact .refl _
    · rw [valV_neg (fun y => z (Sum.inl.inj y).symm), valV_nil] at hj
      cases hj
  · unfold KeyI
    rw [valV_pos rfl]
    rfl
/-- the inner loop: behind i links; the pass began with kv0 -/
structure Pss (ls : List Lk) (a : Int) (kv0 : List (Key × V)) (i : Nat) (kvs : List (Key × V)) : Prop where
  fnd : Fnd ls a kvs
  grow : kv0.length ≤ kvs.length
  same : kvs.length = kv0.length → ∀ l ∈ ls.take i, (KeyI kvs l.2.1 ↔ KeyI kvs l.2.2)
theorem pss_skip {ls : List Lk} {a : Int} {kv0 kvs : List (Key × V)} {i : Nat} {l : Lk} (P : Pss ls a kv0 i kvs) (e : ls[i]? = some l) (h1 : ¬ KeyI kvs l.2.1) (h2 : ¬ KeyI kvs l.2.2) : Pss ls a kv0 (i + 1) kvs :=
  ⟨P.fnd, P.grow, fun z m hm => by
    rw [List.take_add_one, e] at hm
    rcases List.mem_append.mp hm with hm | hm
    · exact P.same z m hm
    · simp only [Option.toList_some, List.mem_singleton] at hm
      subst hm
      exact ⟨fun k => absurd k h1, fun k => absurd k h2⟩⟩
theorem pss_put {ls : List Lk} {a : Int} {kv0 kvs : List (Key × V)} {i : Nat} {l : Lk} {v w : V} (P : Pss ls a kv0 i kvs) (e : ls[i]? = some l) (h : KeyI kvs l.2.1 ∨ KeyI kvs l.2.2) :
    Pss ls a kv0 (i + 1) (putK (putK kvs (.inl l.2.1) v) (.inl l.2.2) w) := by
  have hl := List.mem_of_getElem? e
  have m1 : l.2.1 ∈ ls.map (fun l => l.2.1) := List.mem_map.mpr ⟨l, hl, rfl⟩
  have m2 : l.2.2 ∈ ls.map (fun l => l.2.2) := List.mem_map.mpr ⟨l, hl, rfl⟩
  have ce : Con (allE ls) l.2.1 l.2.2 := .one (.inl (List.mem_map.mpr ⟨l, hl, rfl⟩))
  have c12 : Con (allE ls) a l.2.1 ∧ Con (allE ls) a l.2.2 := by
    rcases h with h | h
    · exact ⟨P.fnd.con _ h, (P.fnd.con _ h).trans ce⟩
    · exact ⟨(P.fnd.con _ h).trans ce.symm, P.fnd.con _ h⟩
  have g1 := putK_ge (kvs := kvs) (k := .inl l.2.1) (v := v)
  have g2 := putK_ge (kvs := putK kvs (.inl l.2.1) v) (k := .inl l.2.2) (v := w)
  refine ⟨(P.fnd.put (.inl m1) c12.1).put (.inr m2) c12.2, by have := P.grow; omega, fun z m hm => ?_⟩
  have z1 : (putK kvs (.inl l.2.1) v).length = kvs.length := by have := P.grow; omega
  have z2 : (putK (putK kvs (.inl l.2.1) v) (.inl l.2.2) w).length = (putK kvs (.inl l.2.1) v).length := by have := P.grow; omega
  have k1 : KeyI kvs l.2.1 := putK_grow z1
  have k2 : KeyI (putK kvs (.inl l.2.1) v) l.2.2 := putK_grow z2
  have k2 : KeyI kvs l.2.2 := by
    rcases keyI_put.mp k2 with x | x
    · rw [x]; exact k1
    · exact x
  have same : ∀ j, KeyI (putK (putK kvs (.inl l.2.1) v) (.inl l.2.2) w) j ↔ KeyI kvs j := fun j => by
    rw [keyI_put, keyI_put]
    constructor
    · rintro (rfl | rfl | x)
      · exact k2
      · exact k1
      · exact x
    · exact fun x => .inr (.inr x)
  rw [same, same]
  rw [List.take_add_one, e] at hm
  rcases List.mem_append.mp hm with hm | hm
  · exact P.same (by omega) m hm
  · simp only [Option.toList_some, List.mem_singleton] at hm
    subst hm
    exact ⟨fun _ => k2, fun _ => k1⟩
theorem kind_open {s : Sh} (h : s ≠ .opn) : ¬ V.str (kindB s) = V.str (Str.ofString "open") := by
  cases s with
  | opn => exact absurd rfl h
  | node r ps => cases r <;> exact fun z => absurd (V.str.inj z) (by show ¬ kn _ = _; decide +kernel)
  | link n => exact fun z => absurd (V.str.inj z) (by show ¬ Str.ofString "link" = _; decide +kernel)
  | net ls => exact fun z => absurd (V.str.inj z) (by show ¬ Str.ofString "net" = _; decide +kernel)
  | shut => exact fun z => absurd (V.str.inj z) (by show ¬ Str.ofString "shut" = _; decide +kernel)
def spReachB : Sp := fun vs H Q _ => ∃ l xs ls a, vs = [.ref l, .int a] ∧ H l = some (.lst xs) ∧ TLs H xs ls ∧ ls.length < 64 ∧ ∀ D kvs H', Same H H' → H' D = some (.dK kvs) → (∀ j, KeyI kvs j ↔ Con (allE ls) a j) → Q (.ref D) H'
def spJoinB (K : PySem.W.Frag) (C aO aS : Addr) : Sp := fun vs H Q _ => ∃ x s v ns, vs = [.ref x, v] ∧ WebB C aO aS H x s ∧ SqV K H v (ns.map V.str) ∧ ∀ b H', Same H H' → (b = true ↔ joinsB ns s) → Q (.bl b) H'
end RR
set_option maxHeartbeats 4000000
namespace RR
open PySem PySem.Spec PyProof.Rows L2
open LamX
/-! ### signs of own classes, the other side a value of a kind that lacks the sign -/
/-- what the text says of the kind T: it lacks the sign -/
structure Lacks (K : PySem.W.Frag) (C : Addr) (op : Operator) (T : String) : Prop where
  h1 : PySem.W.findIn K (.type T) (PySem.dunder op.info.2) = some none
  h2 : PySem.W.findIn K (.type T) (dunderR op.info.2) = some none
/-- no in-place method of the class -/
structure NoIn (K : PySem.W.Frag) (C : Addr) (op : Operator) : Prop where
  mro : (PySem.W.clsIn K C).any (fun cd => cd.mro == [.ref C, .type "object"]) = true
  c : PySem.W.findIn K (.ref C) (dunderI op.info.2) = some none
  o : PySem.W.findIn K (.type "object") (dunderI op.info.2) = some none
section
variable {prog : Program} {w : World} {A : Around} {Er : Value → Shared → Prop} {s : Shared} {K : PySem.W.Frag} {x C dx f r : Addr} {od : Option Obj} {op : Operator} {b : Value} {T : String}
end
section
variable {X : Cx} {CX : CXT} {C f : Addr} {n : Nat} {g : Sp} {E : XK} {op : Operator} {pins : List (Addr × Obj)} {σ : L2.St} {H : Hp} {s : Shared}
/-- the other side: an instance, or a value of one of the told kinds -/
def Kinds (K : PySem.W.Frag) (C : Addr) (op : Operator) (H : Hp) (y : V) : Prop := (∃ b dx fs, y = .ref b ∧ H b = some (.ins C dx fs)) ∨ ((∃ z, y = .str z) ∧ Lacks K C op "str") ∨ (y = .non ∧ Lacks K C op "NoneType")
def rOpA (K : PySem.W.Frag) (op : Operator) (C : Addr) (g : Sp) (E : XK) : R2 := fun x y H Q => (∃ a dx fs, x = .ref a ∧ H a = some (.ins C dx fs)) ∧ Kinds K C op H y ∧ g [x, y] H Q E
/-- x op= y, the class without an in-place method -/
def rOpAI (K : PySem.W.Frag) (op : Operator) (C : Addr) (g : Sp) (E : XK) : TIp := fun x y H Q => rOpA K op C g E x y H Q
/-- a text on the left -/
def rOpS (K : PySem.W.Frag) (op : Operator) (C : Addr) (g : Sp) (E : XK) : R2 := fun x y H Q => (∃ z, x = .str z) ∧ (∃ a dx fs, y = .ref a ∧ H a = some (.ins C dx fs)) ∧ g [y, x] H Q E
end
end RR
set_option maxHeartbeats 4000000
namespace RR
open PySem PySem.Spec PyProof.Rows L2
section
variable {P : Program} {w : World} {A : Around} {E : Value → Shared → Prop} {s : Shared} {T : Type} [DecidableEq T] {kd : KeyKind P w T}
variable {a : Addr} {L : List (Addr × List T)} {es : Array (Int × Value)} {ep : Nat} {t : SetTable}
end
end RR
set_option maxHeartbeats 4000000
namespace RR
open PySem PySem.Spec PyProof.Rows L2
/-- what a set has behind i of the list's items: their first ones -/
structure GotW {T : Type} (ks : List (Addr × List T)) (i : Nat) (L : List (Addr × List T)) : Prop where
  sub : ∀ e ∈ L, e ∈ ks.take i
  all : ∀ e ∈ ks.take i, ∃ u ∈ L, u.2 = e.2
section
variable {T : Type}
end
section
variable {P : Program} {w : World} {A : Around} {E : Value → Shared → Prop} {T : Type} [DecidableEq T] {kd : KeyKind P w T}
variable {s : Shared}
end
end RR
set_option maxHeartbeats 4000000
namespace RR
open PySem PySem.Spec PyProof.Rows L2
section
variable {X : Cx}
/-- set(l), l a list of such tuples, some of them alike -/
def rSetD (K : PySem.W.Frag) (P : Program) (w : World) : List V → Hp → VK → Prop := fun vs H Q => ∃ l ks, vs = [.ref l] ∧ SqL K H l ((ks : List (Addr × List Key)).map fun e => V.ref e.1) ∧ (∀ e ∈ ks, SqT K H e.1 (e.2.map kV)) ∧ ks.length < 77 ∧
  ∀ a L, H a = none → (∀ e ∈ L, e ∈ ks) → (∀ e ∈ ks, ∃ u ∈ L, u.2 = e.2) → (L.map fun e => e.2).Nodup → Q (.ref a) (upd H a (BagO P w a L))
section
variable {P : Program} {w : World} {A : Around} {E : Value → Shared → Prop} {s : Shared}
end
/-- sorted(that set), which may have the empty tuple alone -/
def rSortW (K : PySem.W.Frag) (P : Program) (w : World) : List V → Hp → VK → Prop := fun vs H Q => ∃ a L, vs = [.ref a] ∧ H a = some (BagO P w a L) ∧ (∀ e ∈ L, SqT K H e.1 (e.2.map kV)) ∧ (L.length ≤ 1 ∨ ∃ sh, ∀ e ∈ L, Shape sh e.2) ∧
  ∀ (p : Addr) (L' : List (Addr × List Key)), H p = none → L'.Perm L → L'.Pairwise (fun x y => leK x.2 y.2) → Q (.ref p) (upd H p (.lst (L'.map fun e => V.ref e.1)))
end
/-! ### sorted(rows, key = len) -/
/-- a list of rows by their lengths -/
def byLen (L : List (Addr × List Key)) : List (Addr × List Key) := L.mergeSort fun x y => decide ((x.2.length : Int) ≤ (y.2.length : Int))
section
variable {X : Cx} {o : Expr} {to : TE} {p q pos kpos : Pos}
def rSortLen (K : PySem.W.Frag) (vs : List V) (H : Hp) (Q : VK) : Prop := ∃ l L, vs = [.ref l] ∧ SqL K H l ((L : List (Addr × List Key)).map fun e => V.ref e.1) ∧ (∀ e ∈ L, SqT K H e.1 (e.2.map kV)) ∧ (∀ e ∈ L, e.2.length < 1000) ∧
  ∀ p, H p = none → Q (.ref p) (upd H p (.lst ((byLen L).map fun e => V.ref e.1)))
def tSortLen (K : PySem.W.Frag) (t : TA) : TE := fun σ H Q => t σ H fun vs H1 => rSortLen K vs H1 Q
end
end RR
set_option maxHeartbeats 4000000
namespace RR
open PySem PySem.Spec PyProof.Rows L2
/-! ### rows by their length, then by their items -/
/-- shorter, or as long and not behind -/
def llK (a b : List Key) : Prop := a.length < b.length ∨ (a.length = b.length ∧ leK a b)
/-- the rows of a list, each once, in this order -/
structure InOrd (ks M : List (Addr × List Key)) : Prop where
  sub : ∀ e ∈ M, e ∈ ks
  all : ∀ e ∈ ks, ∃ u ∈ M, u.2 = e.2
  nd : (M.map fun e => e.2).Nodup
  ord : M.Pairwise fun x y => llK x.2 y.2
/-- in_order(rows) -/
def spInOrder (K : PySem.W.Frag) : Sp := fun vs H Q _ => ∃ l ks, vs = [.ref l] ∧ H l = some (.lst ((ks : List (Addr × List Key)).map fun e => V.ref e.1)) ∧ (∀ e ∈ ks, SqT K H e.1 (e.2.map kV) ∧ e.2.length < 1000) ∧ ks.length < 77 ∧ ((∃ x, ∀ e ∈ ks, e.2 = x) ∨ ∃ sh, ∀ e ∈ ks, Shape sh e.2) ∧
  ∀ p M H', Same H H' → H p = none → H' p = some (.lst ((M : List (Addr × List Key)).map fun e => V.ref e.1)) → InOrd ks M → Q (.ref p) H'
end RR
set_option maxHeartbeats 4000000
namespace RR
open PySem PySem.Spec PyProof.Rows L2
local macro_rules | `(tactic| walk_at "hp") => `(tactic| first | assumption | exact upd_same | (refine hp_new ?_ (by assumption); walk_at "hp") | (refine hp_mut ?_ (by first | assumption | (apply Ne.symm; assumption)); walk_at "hp") | (refine Same.at (by assumption) ?_; walk_at "hp"))
local macro_rules | `(tactic| walk_at "same") => `(tactic| first | exact fun _ _ z => z | assumption | (refine same_new ?_ (by assumption); walk_at "same") | (refine L2.Same.trans ?_ (by assumption); walk_at "same"))
local macro_rules | `(tactic| walk_at "sq") => `(tactic| exact SqL.of (by walk_at "hp"))
local macro_rules | `(tactic| walk_at "sqT") => `(tactic| exact SqT.of (by walk_at "hp"))

open LamX
def top (i : Nat) : Stmt := PySem.Challenge.pw_sixasone_k52_ways_and_cuts_looked_at.main.body.getD i (.Pass ⟨0, 0, 0, 0⟩)
abbrev s_is_int : Stmt := top 14
abbrev N_is_int : List Str := ["thing"]
theorem sc_is_int : FnScope N_is_int ["thing"] (defScope s_is_int) := ⟨rfl, rfl, rfl, by decide +kernel, rfl, by decide +kernel, by decide +kernel⟩
abbrev s_is_name : Stmt := top 15
abbrev N_is_name : List Str := ["thing"]
theorem sc_is_name : FnScope N_is_name ["thing"] (defScope s_is_name) := ⟨rfl, rfl, rfl, by decide +kernel, rfl, by decide +kernel, by decide +kernel⟩
abbrev s_ordered_links : Stmt := top 31
abbrev N_ordered_links : List Str := ["links", "rows", "name", "u", "v", "ranked", "at", "row"]
theorem sc_ordered_links : FnScope N_ordered_links ["links"] (defScope s_ordered_links) := ⟨rfl, rfl, rfl, by decide +kernel, rfl, by decide +kernel, by decide +kernel⟩
abbrev s_joints_of : Stmt := top 32
abbrev N_joints_of : List Str := ["links", "_", "u", "v"]
theorem sc_joints_of : FnScope N_joints_of ["links"] (defScope s_joints_of) := ⟨rfl, rfl, rfl, by decide +kernel, rfl, by decide +kernel, by decide +kernel⟩
abbrev s_net_shape : Stmt := top 33
abbrev N_net_shape : List Str := ["links"]
theorem sc_net_shape : FnScope N_net_shape ["links"] (defScope s_net_shape) := ⟨rfl, rfl, rfl, by decide +kernel, rfl, by decide +kernel, by decide +kernel⟩
abbrev s_compound : Stmt := top 34
abbrev N_compound : List Str := ["kind", "parts", "spoiling", "needless", "flat", "part", "kept"]
abbrev s_moved_links : Stmt := top 38
abbrev N_moved_links : List Str := ["links", "left", "right", "numbers", "joint_at", "at", "joint", "name", "u", "v"]
theorem sc_moved_links : FnScope N_moved_links ["links", "left", "right", "numbers"] (defScope s_moved_links) := ⟨rfl, rfl, rfl, by decide +kernel, rfl, by decide +kernel, by decide +kernel⟩
abbrev s_laid_net : Stmt := top 37
abbrev N_laid_net : List Str := ["net_links", "left", "right", "free", "inner", "moved"]
theorem sc_laid_net : FnScope N_laid_net ["net_links", "left", "right", "free"] (defScope s_laid_net) := ⟨rfl, rfl, rfl, by decide +kernel, rfl, by decide +kernel, by decide +kernel⟩
abbrev s_laid : Stmt := top 35
abbrev N_laid : List Str := ["shape", "left", "right", "free", "kind", "links", "part", "more"]
theorem sc_laid : FnScope N_laid ["shape", "left", "right", "free"] (defScope s_laid) := ⟨rfl, rfl, rfl, by decide +kernel, rfl, by decide +kernel, by decide +kernel⟩
abbrev s_laid_row : Stmt := top 36
abbrev N_laid_row : List Str := ["parts", "left", "right", "free", "links", "near", "part", "far", "more"]
theorem sc_laid_row : FnScope N_laid_row ["parts", "left", "right", "free"] (defScope s_laid_row) := ⟨rfl, rfl, rfl, by decide +kernel, rfl, by decide +kernel, by decide +kernel⟩
abbrev s_links_of : Stmt := top 39
abbrev N_links_of : List Str := ["shape", "links", "_"]
theorem sc_links_of : FnScope N_links_of ["shape"] (defScope s_links_of) := ⟨rfl, rfl, rfl, by decide +kernel, rfl, by decide +kernel, by decide +kernel⟩
abbrev s_is_netless : Stmt := top 40
abbrev N_is_netless : List Str := ["shape", "part"]
theorem sc_is_netless : FnScope N_is_netless ["shape"] (defScope s_is_netless) := ⟨rfl, rfl, rfl, by decide +kernel, rfl, by decide +kernel, by decide +kernel⟩
abbrev s_text_of : Stmt := top 47
abbrev N_text_of : List Str := ["shape", "kind", "within", "name", "u", "v", "part"]
abbrev s_is_link : Stmt := top 54
abbrev N_is_link : List Str := ["thing", "joint"]
theorem sc_is_link : FnScope N_is_link ["thing"] (defScope s_is_link) := ⟨rfl, rfl, rfl, by decide +kernel, rfl, by decide +kernel, by decide +kernel⟩
abbrev s_shape_of : Stmt := top 55
abbrev N_shape_of : List Str := ["part", "at"]
abbrev s_web_of : Stmt := top 56
abbrev N_web_of : List Str := ["shape"]
abbrev s_reached : Stmt := top 19
abbrev N_reached : List Str := ["links", "start", "found", "before", "_", "u", "v"]
theorem sc_reached : FnScope N_reached ["links", "start"] (defScope s_reached) := ⟨rfl, rfl, rfl, by decide +kernel, rfl, by decide +kernel, by decide +kernel⟩
abbrev s_joins : Stmt := top 22
abbrev N_joins : List Str := ["web", "names", "link"]
theorem sc_joins : FnScope N_joins ["web", "names"] (defScope s_joins) := ⟨rfl, rfl, rfl, by decide +kernel, rfl, by decide +kernel, by decide +kernel⟩
abbrev s_are_names : Stmt := top 25
abbrev N_are_names : List Str := ["thing", "name"]
theorem sc_are_names : FnScope N_are_names ["thing"] (defScope s_are_names) := ⟨rfl, rfl, rfl, by decide +kernel, rfl, by decide +kernel, by decide +kernel⟩
abbrev s_shows_apart : Stmt := top 27
abbrev N_shows_apart : List Str := ["one", "other", "way", "cut", "name"]
theorem sc_shows_apart : FnScope N_shows_apart ["one", "other", "way", "cut"] (defScope s_shows_apart) := ⟨rfl, rfl, rfl, by decide +kernel, rfl, by decide +kernel, by decide +kernel⟩
abbrev s_Web___init__ : Stmt := inClass (top 57) 1
abbrev N_Web___init__ : List Str := ["self", "shape"]
theorem sc_Web___init__ : FnScope N_Web___init__ ["self", "shape"] (defScope s_Web___init__) := ⟨rfl, rfl, rfl, by decide +kernel, rfl, by decide +kernel, by decide +kernel⟩
abbrev s_Web_link : Stmt := inClass (top 57) 2
abbrev N_Web_link : List Str := ["name"]
abbrev s_Web_net : Stmt := inClass (top 57) 3
abbrev N_Web_net : List Str := ["links", "at", "thing"]
theorem sc_Web_net : FnScope N_Web_net ["links"] (defScope s_Web_net) := ⟨rfl, rfl, rfl, by decide +kernel, rfl, by decide +kernel, by decide +kernel⟩
abbrev s_Web_row : Stmt := inClass (top 57) 4
abbrev N_Web_row : List Str := ["parts", "at", "part"]
abbrev s_Web_bunch : Stmt := inClass (top 57) 5
abbrev N_Web_bunch : List Str := ["parts", "at", "part"]
abbrev s_Web_always : Stmt := inClass (top 57) 6
abbrev N_Web_always : List Str := []
theorem sc_Web_always : FnScope N_Web_always [] (defScope s_Web_always) := ⟨rfl, rfl, rfl, by decide +kernel, rfl, by decide +kernel, by decide +kernel⟩
abbrev s_Web_never : Stmt := inClass (top 57) 7
abbrev N_Web_never : List Str := []
abbrev s_Web_kind : Stmt := inClass (top 57) 9
abbrev N_Web_kind : List Str := ["self"]
theorem sc_Web_kind : FnScope N_Web_kind ["self"] (defScope s_Web_kind) := ⟨rfl, rfl, rfl, by decide +kernel, rfl, by decide +kernel, by decide +kernel⟩
abbrev s_Web_links : Stmt := inClass (top 57) 11
abbrev N_Web_links : List Str := ["self"]
theorem sc_Web_links : FnScope N_Web_links ["self"] (defScope s_Web_links) := ⟨rfl, rfl, rfl, by decide +kernel, rfl, by decide +kernel, by decide +kernel⟩
abbrev s_Web_names : Stmt := inClass (top 57) 13
abbrev N_Web_names : List Str := ["self", "link"]
theorem sc_Web_names : FnScope N_Web_names ["self"] (defScope s_Web_names) := ⟨rfl, rfl, rfl, by decide +kernel, rfl, by decide +kernel, by decide +kernel⟩
abbrev s_Web___and__ : Stmt := inClass (top 57) 21
abbrev N_Web___and__ : List Str := ["self", "other"]
abbrev s_Web___or__ : Stmt := inClass (top 57) 23
abbrev N_Web___or__ : List Str := ["self", "other"]
abbrev s__law_pen : Stmt := top 59
abbrev N__law_pen : List Str := ["_law_script"]
theorem sc__law_pen : FnScope N__law_pen ["_law_script"] (defScope s__law_pen) := ⟨rfl, rfl, rfl, by decide +kernel, rfl, by decide +kernel, by decide +kernel⟩
abbrev s__law_draw : Stmt := top 60
abbrev N__law_draw : List Str := ["_law_pen_here", "_law_many", "_law_digit", "_law_at", "_law_cell", "_law_great", "_law_mixed_here"]
theorem sc__law_draw : FnScope N__law_draw ["_law_pen_here", "_law_many"] (defScope s__law_draw) := ⟨rfl, rfl, rfl, by decide +kernel, rfl, by decide +kernel, by decide +kernel⟩
abbrev s__law_pick : Stmt := top 61
abbrev N__law_pick : List Str := ["_law_pen_here", "_law_some"]
theorem sc__law_pick : FnScope N__law_pick ["_law_pen_here", "_law_some"] (defScope s__law_pick) := ⟨rfl, rfl, rfl, by decide +kernel, rfl, by decide +kernel, by decide +kernel⟩
abbrev s__law_mixed : Stmt := top 62
abbrev N__law_mixed : List Str := ["_law_pen_here", "_law_some", "_law_left", "_law_lap"]
theorem sc__law_mixed : FnScope N__law_mixed ["_law_pen_here", "_law_some"] (defScope s__law_mixed) := ⟨rfl, rfl, rfl, by decide +kernel, rfl, by decide +kernel, by decide +kernel⟩
abbrev s__law_tied : Stmt := top 63
abbrev N__law_tied : List Str := ["_law_pen_here", "_law_names_here", "_law_parts", "_law_name", "_law_at", "_law_both"]
theorem sc__law_tied : FnScope N__law_tied ["_law_pen_here", "_law_names_here"] (defScope s__law_tied) := ⟨rfl, rfl, rfl, by decide +kernel, rfl, by decide +kernel, by decide +kernel⟩
abbrev s__law_laid : Stmt := top 64
abbrev N__law_laid : List Str := ["_law_tree", "_law_u", "_law_v", "_law_first", "_law_links_here", "_law_more", "_law_between"]
theorem sc__law_laid : FnScope N__law_laid ["_law_tree", "_law_u", "_law_v", "_law_first"] (defScope s__law_laid) := ⟨rfl, rfl, rfl, by decide +kernel, rfl, by decide +kernel, by decide +kernel⟩
abbrev s__law_net : Stmt := top 65
abbrev N__law_net : List Str := ["_law_pen_here", "_law_names_here", "_law_shapes", "_law_spots", "_law_found", "_law_at", "_law_name", "_law_u", "_law_v"]
theorem sc__law_net : FnScope N__law_net ["_law_pen_here", "_law_names_here"] (defScope s__law_net) := ⟨rfl, rfl, rfl, by decide +kernel, rfl, by decide +kernel, by decide +kernel⟩
abbrev s__law_links : Stmt := top 66
abbrev N__law_links : List Str := ["_law_pen_here", "_law_names_here"]
theorem sc__law_links : FnScope N__law_links ["_law_pen_here", "_law_names_here"] (defScope s__law_links) := ⟨rfl, rfl, rfl, by decide +kernel, rfl, by decide +kernel, by decide +kernel⟩
abbrev s__law_joined : Stmt := top 67
abbrev N__law_joined : List Str := ["_law_links_here", "_law_names_here", "_law_known", "_law_more", "_law_name", "_law_u", "_law_v"]
theorem sc__law_joined : FnScope N__law_joined ["_law_links_here", "_law_names_here"] (defScope s__law_joined) := ⟨rfl, rfl, rfl, by decide +kernel, rfl, by decide +kernel, by decide +kernel⟩
abbrev s__law_choices : Stmt := top 68
abbrev N__law_choices : List Str := ["_law_names_here", "_law_many", "_law_found", "_law_at", "_law_rest"]
theorem sc__law_choices : FnScope N__law_choices ["_law_names_here", "_law_many"] (defScope s__law_choices) := ⟨rfl, rfl, rfl, by decide +kernel, rfl, by decide +kernel, by decide +kernel⟩
abbrev s__law_names : Stmt := top 69
abbrev N__law_names : List Str := ["_law_links_here", "_law_link"]
theorem sc__law_names : FnScope N__law_names ["_law_links_here"] (defScope s__law_names) := ⟨rfl, rfl, rfl, by decide +kernel, rfl, by decide +kernel, by decide +kernel⟩
abbrev s__law_least_ways : Stmt := top 70
abbrev N__law_least_ways : List Str := ["_law_links_here", "_law_names_here", "_law_found", "_law_many", "_law_choice", "_law_lesser", "_law_some", "_law_name"]
theorem sc__law_least_ways : FnScope N__law_least_ways ["_law_links_here"] (defScope s__law_least_ways) := ⟨rfl, rfl, rfl, by decide +kernel, rfl, by decide +kernel, by decide +kernel⟩
abbrev s__law_bent : Stmt := top 71
abbrev N__law_bent : List Str := ["_law_pen_here", "_law_links_here", "_law_route", "_law_u", "_law_v", "_law_low", "_law_high", "_law_name", "_law_a", "_law_b", "_law_at", "_law_rhs", "_law_found"]
theorem sc__law_bent : FnScope N__law_bent ["_law_pen_here", "_law_links_here"] (defScope s__law_bent) := ⟨rfl, rfl, rfl, by decide +kernel, rfl, by decide +kernel, by decide +kernel⟩
abbrev s__law_pair : Stmt := top 72
abbrev N__law_pair : List Str := ["_law_pen_here", "_law_names_here", "_law_lhs", "_law_rhs"]
theorem sc__law_pair : FnScope N__law_pair ["_law_pen_here"] (defScope s__law_pair) := ⟨rfl, rfl, rfl, by decide +kernel, rfl, by decide +kernel, by decide +kernel⟩
abbrev s__law_is_word : Stmt := top 73
abbrev N__law_is_word : List Str := ["_law_thing", "_law_sign"]
theorem sc__law_is_word : FnScope N__law_is_word ["_law_thing"] (defScope s__law_is_word) := ⟨rfl, rfl, rfl, by decide +kernel, rfl, by decide +kernel, by decide +kernel⟩
abbrev s__law_are_words : Stmt := top 74
abbrev N__law_are_words : List Str := ["_law_thing", "_law_lhs"]
theorem sc__law_are_words : FnScope N__law_are_words ["_law_thing"] (defScope s__law_are_words) := ⟨rfl, rfl, rfl, by decide +kernel, rfl, by decide +kernel, by decide +kernel⟩
abbrev s__law_due : Stmt := top 75
abbrev N__law_due : List Str := ["_law_lhs", "_law_rhs", "_law_route", "_law_gap", "_law_name"]
theorem sc__law_due : FnScope N__law_due ["_law_lhs", "_law_rhs", "_law_route", "_law_gap"] (defScope s__law_due) := ⟨rfl, rfl, rfl, by decide +kernel, rfl, by decide +kernel, by decide +kernel⟩
abbrev s__law_spoilt : Stmt := top 76
abbrev N__law_spoilt : List Str := ["_law_pen_here", "_law_names_here", "_law_at", "_law_word", "_law_route"]
theorem sc__law_spoilt : FnScope N__law_spoilt ["_law_pen_here", "_law_names_here"] (defScope s__law_spoilt) := ⟨rfl, rfl, rfl, by decide +kernel, rfl, by decide +kernel, by decide +kernel⟩
abbrev s__law_web : Stmt := top 77
abbrev N__law_web : List Str := ["_law_links_here"]
theorem sc__law_web : FnScope N__law_web ["_law_links_here"] (defScope s__law_web) := ⟨rfl, rfl, rfl, by decide +kernel, rfl, by decide +kernel, by decide +kernel⟩
abbrev s__law_right : Stmt := top 78
abbrev N__law_right : List Str := ["_law_lhs", "_law_rhs", "_law_route", "_law_gap", "_law_kept", "_law_told", "_law_again", "_law_due_here"]
theorem sc__law_right : FnScope N__law_right ["_law_lhs", "_law_rhs", "_law_route", "_law_gap"] (defScope s__law_right) := ⟨rfl, rfl, rfl, by decide +kernel, rfl, by decide +kernel, by decide +kernel⟩
abbrev s__law_good : Stmt := top 79
abbrev N__law_good : List Str := ["_law_pen_here", "_law_lhs", "_law_rhs", "_law_routes", "_law_lost", "_law_route", "_law_next_to", "_law_name"]
theorem sc__law_good : FnScope N__law_good ["_law_pen_here", "_law_lhs", "_law_rhs"] (defScope s__law_good) := ⟨rfl, rfl, rfl, by decide +kernel, rfl, by decide +kernel, by decide +kernel⟩
abbrev s_law : Stmt := top 80
abbrev N_law : List Str := ["_law_script", "_law_pen_here", "_law_lap", "_law_lhs", "_law_rhs", "_law_route", "_law_some", "_law_more", "_law_next_to", "_law_name", "_law_again", "_law_bent_here"]
theorem sc_law : FnScope N_law ["_law_script"] (defScope s_law) := ⟨rfl, rfl, rfl, by decide +kernel, rfl, by decide +kernel, by decide +kernel⟩
structure TX (K : PySem.W.Frag) (mg : Str → Option Value) : Type where
  b_int : mg "int" = none
  b_bool : mg "bool" = none
  b_isinstance : mg "isinstance" = none
  b_list : mg "list" = none
  b_tuple : mg "tuple" = none
  b_len : mg "len" = none
  b_abs : mg "abs" = none
  b_repr : mg "repr" = none
  b_range : mg "range" = none
  b_str : mg "str" = none
  b_sorted : mg "sorted" = none
  b_set : mg "set" = none
  b_dict : mg "dict" = none
  b_enumerate : mg "enumerate" = none
  b_all : mg "all" = none
  b_any : mg "any" = none
  b_min : mg "min" = none
  b_max : mg "max" = none
  b_ValueError : mg "ValueError" = none
  f_is_int : Addr
  d_is_int : FuncData
  F_is_int : Fun K "is_int" "is_int" s_is_int f_is_int d_is_int
  m_is_int : mg "is_int" = some (.ref f_is_int)
  f_is_name : Addr
  d_is_name : FuncData
  F_is_name : Fun K "is_name" "is_name" s_is_name f_is_name d_is_name
  m_is_name : mg "is_name" = some (.ref f_is_name)
  f_ordered_links : Addr
  d_ordered_links : FuncData
  F_ordered_links : Fun K "ordered_links" "ordered_links" s_ordered_links f_ordered_links d_ordered_links
  m_ordered_links : mg "ordered_links" = some (.ref f_ordered_links)
  f_joints_of : Addr
  d_joints_of : FuncData
  F_joints_of : Fun K "joints_of" "joints_of" s_joints_of f_joints_of d_joints_of
  m_joints_of : mg "joints_of" = some (.ref f_joints_of)
  f_net_shape : Addr
  d_net_shape : FuncData
  F_net_shape : Fun K "net_shape" "net_shape" s_net_shape f_net_shape d_net_shape
  m_net_shape : mg "net_shape" = some (.ref f_net_shape)
  f_compound : Addr
  d_compound : FuncData
  F_compound : Fun K "compound" "compound" s_compound f_compound d_compound
  m_compound : mg "compound" = some (.ref f_compound)
  f_moved_links : Addr
  d_moved_links : FuncData
  F_moved_links : Fun K "moved_links" "moved_links" s_moved_links f_moved_links d_moved_links
  m_moved_links : mg "moved_links" = some (.ref f_moved_links)
  f_laid_net : Addr
  d_laid_net : FuncData
  F_laid_net : Fun K "laid_net" "laid_net" s_laid_net f_laid_net d_laid_net
  m_laid_net : mg "laid_net" = some (.ref f_laid_net)
  f_laid : Addr
  d_laid : FuncData
  F_laid : Fun K "laid" "laid" s_laid f_laid d_laid
  m_laid : mg "laid" = some (.ref f_laid)
  f_laid_row : Addr
  d_laid_row : FuncData
  F_laid_row : Fun K "laid_row" "laid_row" s_laid_row f_laid_row d_laid_row
  m_laid_row : mg "laid_row" = some (.ref f_laid_row)
  f_links_of : Addr
  d_links_of : FuncData
  F_links_of : Fun K "links_of" "links_of" s_links_of f_links_of d_links_of
  m_links_of : mg "links_of" = some (.ref f_links_of)
  f_is_netless : Addr
  d_is_netless : FuncData
  F_is_netless : Fun K "is_netless" "is_netless" s_is_netless f_is_netless d_is_netless
  m_is_netless : mg "is_netless" = some (.ref f_is_netless)
  f_text_of : Addr
  d_text_of : FuncData
  F_text_of : Fun K "text_of" "text_of" s_text_of f_text_of d_text_of
  m_text_of : mg "text_of" = some (.ref f_text_of)
  f_is_link : Addr
  d_is_link : FuncData
  F_is_link : Fun K "is_link" "is_link" s_is_link f_is_link d_is_link
  m_is_link : mg "is_link" = some (.ref f_is_link)
  f_shape_of : Addr
  d_shape_of : FuncData
  F_shape_of : Fun K "shape_of" "shape_of" s_shape_of f_shape_of d_shape_of
  m_shape_of : mg "shape_of" = some (.ref f_shape_of)
  f_web_of : Addr
  d_web_of : FuncData
  F_web_of : Fun K "web_of" "web_of" s_web_of f_web_of d_web_of
  m_web_of : mg "web_of" = some (.ref f_web_of)
  f_reached : Addr
  d_reached : FuncData
  F_reached : Fun K "reached" "reached" s_reached f_reached d_reached
  m_reached : mg "reached" = some (.ref f_reached)
  f_joins : Addr
  d_joins : FuncData
  F_joins : Fun K "joins" "joins" s_joins f_joins d_joins
  m_joins : mg "joins" = some (.ref f_joins)
  f_are_names : Addr
  d_are_names : FuncData
  F_are_names : Fun K "are_names" "are_names" s_are_names f_are_names d_are_names
  m_are_names : mg "are_names" = some (.ref f_are_names)
  f_shows_apart : Addr
  d_shows_apart : FuncData
  F_shows_apart : Fun K "shows_apart" "shows_apart" s_shows_apart f_shows_apart d_shows_apart
  m_shows_apart : mg "shows_apart" = some (.ref f_shows_apart)
  f__law_pen : Addr
  d__law_pen : FuncData
  F__law_pen : Fun K "_law_pen" "_law_pen" s__law_pen f__law_pen d__law_pen
  m__law_pen : mg "_law_pen" = some (.ref f__law_pen)
  f__law_draw : Addr
  d__law_draw : FuncData
  F__law_draw : Fun K "_law_draw" "_law_draw" s__law_draw f__law_draw d__law_draw
  m__law_draw : mg "_law_draw" = some (.ref f__law_draw)
  f__law_pick : Addr
  d__law_pick : FuncData
  F__law_pick : Fun K "_law_pick" "_law_pick" s__law_pick f__law_pick d__law_pick
  m__law_pick : mg "_law_pick" = some (.ref f__law_pick)
  f__law_mixed : Addr
  d__law_mixed : FuncData
  F__law_mixed : Fun K "_law_mixed" "_law_mixed" s__law_mixed f__law_mixed d__law_mixed
  m__law_mixed : mg "_law_mixed" = some (.ref f__law_mixed)
  f__law_tied : Addr
  d__law_tied : FuncData
  F__law_tied : Fun K "_law_tied" "_law_tied" s__law_tied f__law_tied d__law_tied
  m__law_tied : mg "_law_tied" = some (.ref f__law_tied)
  f__law_laid : Addr
  d__law_laid : FuncData
  F__law_laid : Fun K "_law_laid" "_law_laid" s__law_laid f__law_laid d__law_laid
  m__law_laid : mg "_law_laid" = some (.ref f__law_laid)
  f__law_net : Addr
  d__law_net : FuncData
  F__law_net : Fun K "_law_net" "_law_net" s__law_net f__law_net d__law_net
  m__law_net : mg "_law_net" = some (.ref f__law_net)
  f__law_links : Addr
  d__law_links : FuncData
  F__law_links : Fun K "_law_links" "_law_links" s__law_links f__law_links d__law_links
  m__law_links : mg "_law_links" = some (.ref f__law_links)
  f__law_joined : Addr
  d__law_joined : FuncData
  F__law_joined : Fun K "_law_joined" "_law_joined" s__law_joined f__law_joined d__law_joined
  m__law_joined : mg "_law_joined" = some (.ref f__law_joined)
  f__law_choices : Addr
  d__law_choices : FuncData
  F__law_choices : Fun K "_law_choices" "_law_choices" s__law_choices f__law_choices d__law_choices
  m__law_choices : mg "_law_choices" = some (.ref f__law_choices)
  f__law_names : Addr
  d__law_names : FuncData
  F__law_names : Fun K "_law_names" "_law_names" s__law_names f__law_names d__law_names
  m__law_names : mg "_law_names" = some (.ref f__law_names)
  f__law_least_ways : Addr
  d__law_least_ways : FuncData
  F__law_least_ways : Fun K "_law_least_ways" "_law_least_ways" s__law_least_ways f__law_least_ways d__law_least_ways
  m__law_least_ways : mg "_law_least_ways" = some (.ref f__law_least_ways)
  f__law_bent : Addr
  d__law_bent : FuncData
  F__law_bent : Fun K "_law_bent" "_law_bent" s__law_bent f__law_bent d__law_bent
  m__law_bent : mg "_law_bent" = some (.ref f__law_bent)
  f__law_pair : Addr
  d__law_pair : FuncData
  F__law_pair : Fun K "_law_pair" "_law_pair" s__law_pair f__law_pair d__law_pair
  m__law_pair : mg "_law_pair" = some (.ref f__law_pair)
  f__law_is_word : Addr
  d__law_is_word : FuncData
  F__law_is_word : Fun K "_law_is_word" "_law_is_word" s__law_is_word f__law_is_word d__law_is_word
  m__law_is_word : mg "_law_is_word" = some (.ref f__law_is_word)
  f__law_are_words : Addr
  d__law_are_words : FuncData
  F__law_are_words : Fun K "_law_are_words" "_law_are_words" s__law_are_words f__law_are_words d__law_are_words
  m__law_are_words : mg "_law_are_words" = some (.ref f__law_are_words)
  f__law_due : Addr
  d__law_due : FuncData
  F__law_due : Fun K "_law_due" "_law_due" s__law_due f__law_due d__law_due
  m__law_due : mg "_law_due" = some (.ref f__law_due)
  f__law_spoilt : Addr
  d__law_spoilt : FuncData
  F__law_spoilt : Fun K "_law_spoilt" "_law_spoilt" s__law_spoilt f__law_spoilt d__law_spoilt
  m__law_spoilt : mg "_law_spoilt" = some (.ref f__law_spoilt)
  f__law_web : Addr
  d__law_web : FuncData
  F__law_web : Fun K "_law_web" "_law_web" s__law_web f__law_web d__law_web
  m__law_web : mg "_law_web" = some (.ref f__law_web)
  f__law_right : Addr
  d__law_right : FuncData
  F__law_right : Fun K "_law_right" "_law_right" s__law_right f__law_right d__law_right
  m__law_right : mg "_law_right" = some (.ref f__law_right)
  f__law_good : Addr
  d__law_good : FuncData
  F__law_good : Fun K "_law_good" "_law_good" s__law_good f__law_good d__law_good
  m__law_good : mg "_law_good" = some (.ref f__law_good)
  f_law : Addr
  d_law : FuncData
  F_law : Fun K "law" "law" s_law f_law d_law
  m_law : mg "law" = some (.ref f_law)
  C_Web : Addr
  m_Web : mg "Web" = some (.ref C_Web)
  f_Web___init__ : Addr
  d_Web___init__ : FuncData
  F_Web___init__ : Fun K "__init__" "Web.__init__" s_Web___init__ f_Web___init__ d_Web___init__
  f_Web_link : Addr
  d_Web_link : FuncData
  F_Web_link : Fun K "link" "Web.link" s_Web_link f_Web_link d_Web_link
  f_Web_net : Addr
  d_Web_net : FuncData
  F_Web_net : Fun K "net" "Web.net" s_Web_net f_Web_net d_Web_net
  f_Web_row : Addr
  d_Web_row : FuncData
  F_Web_row : Fun K "row" "Web.row" s_Web_row f_Web_row d_Web_row
  f_Web_bunch : Addr
  d_Web_bunch : FuncData
  F_Web_bunch : Fun K "bunch" "Web.bunch" s_Web_bunch f_Web_bunch d_Web_bunch
  f_Web_always : Addr
  d_Web_always : FuncData
  F_Web_always : Fun K "always" "Web.always" s_Web_always f_Web_always d_Web_always
  f_Web_never : Addr
  d_Web_never : FuncData
  F_Web_never : Fun K "never" "Web.never" s_Web_never f_Web_never d_Web_never
  f_Web_kind : Addr
  d_Web_kind : FuncData
  F_Web_kind : Fun K "kind" "Web.kind" s_Web_kind f_Web_kind d_Web_kind
  f_Web_links : Addr
  d_Web_links : FuncData
  F_Web_links : Fun K "links" "Web.links" s_Web_links f_Web_links d_Web_links
  f_Web_names : Addr
  d_Web_names : FuncData
  F_Web_names : Fun K "names" "Web.names" s_Web_names f_Web_names d_Web_names
  f_Web___and__ : Addr
  d_Web___and__ : FuncData
  F_Web___and__ : Fun K "__and__" "Web.__and__" s_Web___and__ f_Web___and__ d_Web___and__
  f_Web___or__ : Addr
  d_Web___or__ : FuncData
  F_Web___or__ : Fun K "__or__" "Web.__or__" s_Web___or__ f_Web___or__ d_Web___or__
  C_BadWeb : Addr
  m_BadWeb : mg "BadWeb" = some (.ref C_BadWeb)
  C_TooMany : Addr
  m_TooMany : mg "TooMany" = some (.ref C_TooMany)
  C_WebError : Addr
  m_WebError : mg "WebError" = some (.ref C_WebError)
  LONG_t : Tok
  m_LONGEST : mg "LONGEST" = some (.int 8 LONG_t)
  a_RESERVED : Addr
  m_RESERVED : mg "RESERVED" = some (.ref a_RESERVED)
  resT : ∀ H, SqT K H a_RESERVED resV
  a_SHUT : Addr
  m_SHUT : mg "SHUT" = some (.ref a_SHUT)
  shT : ∀ H, SqT K H a_SHUT [.str "shut"]
  a_OPEN : Addr
  m_OPEN : mg "OPEN" = some (.ref a_OPEN)
  opT : ∀ H, SqT K H a_OPEN [.str "open"]
  vc : Cls K C_Web
  nShape : NoAttr K C_Web "shape"
  nLaid : NoAttr K C_Web "laid_links"
  mk_Web : Mk K C_Web f_Web___init__
  mc_Web : Value
  p_kind : Addr
  pr_kind : PropOf K C_Web "kind" p_kind f_Web_kind
  p_links : Addr
  pr_links : PropOf K C_Web "links" p_links f_Web_links
  p_names : Addr
  pr_names : PropOf K C_Web "names" p_names f_Web_names
  p_link : Addr
  st_link : SMet K C_Web mc_Web "link" p_link f_Web_link
  p_net : Addr
  st_net : SMet K C_Web mc_Web "net" p_net f_Web_net
  p_row : Addr
  st_row : SMet K C_Web mc_Web "row" p_row f_Web_row
  p_bunch : Addr
  st_bunch : SMet K C_Web mc_Web "bunch" p_bunch f_Web_bunch
  p_always : Addr
  st_always : SMet K C_Web mc_Web "always" p_always f_Web_always
  p_never : Addr
  st_never : SMet K C_Web mc_Web "never" p_never f_Web_never
  caW : PySem.W.findIn K (.ref C_Web) "__class__" = some (some (.builtin "object.__class__"))
  cnW : PySem.W.specialIn K (.builtin "object.__class__") "__get__" = some (some (.builtin "getset_descriptor.__get__"))
  ctW : PySem.W.takesIn K (.builtin "object.__class__") = some true
  cmW : PySem.W.mroIn K C_Web (.type "object") = some true
  rdW : ClX.CRead K C_Web mc_Web
  MOST_t : Tok
  mostW : ClX.CVal K C_Web mc_Web "MOST" (.int 14) (.int 14 MOST_t)
  nf : PySem.W.notFirst K C_Web (.ref C_Web) = true
  sfW : PySem.W.selfFirst K C_Web = true
  andW : BinW K C_Web .BitAnd f_Web___and__
  orW : BinW K C_Web .BitOr f_Web___or__
  kWS : PySem.W.kitOne K (.ref C_Web) (.type "str") = some false
abbrev FR {K : PySem.W.Frag} {mg : Str → Option Value} (T : TX K mg) : Frm := .pr T.a_OPEN T.a_SHUT
theorem UN {K : PySem.W.Frag} {mg : Str → Option Value} (T : TX K mg) (H : Hp) : UnitOk (FR T) K H := ⟨T.opT H, T.shT H⟩
theorem bd_is_int {K : PySem.W.Frag} {f : Addr} {fd : FuncData} (F : Fun K "is_int" "is_int" s_is_int f fd) : Binds K fd ["thing"] [] := F.binds fun _ _ _ _ _ _ us hl => match us, hl with | [_], _ => rfl
theorem bd_is_name {K : PySem.W.Frag} {f : Addr} {fd : FuncData} (F : Fun K "is_name" "is_name" s_is_name f fd) : Binds K fd ["thing"] [] := F.binds fun _ _ _ _ _ _ us hl => match us, hl with | [_], _ => rfl
theorem bd_ordered_links {K : PySem.W.Frag} {f : Addr} {fd : FuncData} (F : Fun K "ordered_links" "ordered_links" s_ordered_links f fd) : Binds K fd ["links"] [] := F.binds fun _ _ _ _ _ _ us hl => match us, hl with | [_], _ => rfl
theorem bd_joints_of {K : PySem.W.Frag} {f : Addr} {fd : FuncData} (F : Fun K "joints_of" "joints_of" s_joints_of f fd) : Binds K fd ["links"] [] := F.binds fun _ _ _ _ _ _ us hl => match us, hl with | [_], _ => rfl
theorem bd_net_shape {K : PySem.W.Frag} {f : Addr} {fd : FuncData} (F : Fun K "net_shape" "net_shape" s_net_shape f fd) : Binds K fd ["links"] [] := F.binds fun _ _ _ _ _ _ us hl => match us, hl with | [_], _ => rfl
theorem bd_moved_links {K : PySem.W.Frag} {f : Addr} {fd : FuncData} (F : Fun K "moved_links" "moved_links" s_moved_links f fd) : Binds K fd ["links", "left", "right", "numbers"] [] := F.binds fun _ _ _ _ _ _ us hl => match us, hl with | [_, _, _, _], _ => rfl
theorem bd_laid_net {K : PySem.W.Frag} {f : Addr} {fd : FuncData} (F : Fun K "laid_net" "laid_net" s_laid_net f fd) : Binds K fd ["net_links", "left", "right", "free"] [] := F.binds fun _ _ _ _ _ _ us hl => match us, hl with | [_, _, _, _], _ => rfl
theorem bd_laid {K : PySem.W.Frag} {f : Addr} {fd : FuncData} (F : Fun K "laid" "laid" s_laid f fd) : Binds K fd ["shape", "left", "right", "free"] [] := F.binds fun _ _ _ _ _ _ us hl => match us, hl with | [_, _, _, _], _ => rfl
theorem bd_laid_row {K : PySem.W.Frag} {f : Addr} {fd : FuncData} (F : Fun K "laid_row" "laid_row" s_laid_row f fd) : Binds K fd ["parts", "left", "right", "free"] [] := F.binds fun _ _ _ _ _ _ us hl => match us, hl with | [_, _, _, _], _ => rfl
theorem bd_links_of {K : PySem.W.Frag} {f : Addr} {fd : FuncData} (F : Fun K "links_of" "links_of" s_links_of f fd) : Binds K fd ["shape"] [] := F.binds fun _ _ _ _ _ _ us hl => match us, hl with | [_], _ => rfl
theorem bd_is_link {K : PySem.W.Frag} {f : Addr} {fd : FuncData} (F : Fun K "is_link" "is_link" s_is_link f fd) : Binds K fd ["thing"] [] := F.binds fun _ _ _ _ _ _ us hl => match us, hl with | [_], _ => rfl
theorem bd_reached {K : PySem.W.Frag} {f : Addr} {fd : FuncData} (F : Fun K "reached" "reached" s_reached f fd) : Binds K fd ["links", "start"] [] := F.binds fun _ _ _ _ _ _ us hl => match us, hl with | [_, _], _ => rfl
theorem bd_joins {K : PySem.W.Frag} {f : Addr} {fd : FuncData} (F : Fun K "joins" "joins" s_joins f fd) : Binds K fd ["web", "names"] [] := F.binds fun _ _ _ _ _ _ us hl => match us, hl with | [_, _], _ => rfl
theorem bd_are_names {K : PySem.W.Frag} {f : Addr} {fd : FuncData} (F : Fun K "are_names" "are_names" s_are_names f fd) : Binds K fd ["thing"] [] := F.binds fun _ _ _ _ _ _ us hl => match us, hl with | [_], _ => rfl
theorem bd_shows_apart {K : PySem.W.Frag} {f : Addr} {fd : FuncData} (F : Fun K "shows_apart" "shows_apart" s_shows_apart f fd) : Binds K fd ["one", "other", "way", "cut"] [] := F.binds fun _ _ _ _ _ _ us hl => match us, hl with | [_, _, _, _], _ => rfl
theorem bd_Web___init__ {K : PySem.W.Frag} {f : Addr} {fd : FuncData} (F : Fun K "__init__" "Web.__init__" s_Web___init__ f fd) : Binds K fd ["self", "shape"] [] := F.binds fun _ _ _ _ _ _ us hl => match us, hl with | [_, _], _ => rfl
theorem bd_Web_net {K : PySem.W.Frag} {f : Addr} {fd : FuncData} (F : Fun K "net" "Web.net" s_Web_net f fd) : Binds K fd ["links"] [] := F.binds fun _ _ _ _ _ _ us hl => match us, hl with | [_], _ => rfl
theorem bd_Web_always {K : PySem.W.Frag} {f : Addr} {fd : FuncData} (F : Fun K "always" "Web.always" s_Web_always f fd) : Binds K fd [] [] := F.binds fun _ _ _ _ _ _ us hl => match us, hl with | [], _ => rfl
theorem bd_Web_kind {K : PySem.W.Frag} {f : Addr} {fd : FuncData} (F : Fun K "kind" "Web.kind" s_Web_kind f fd) : Binds K fd ["self"] [] := F.binds fun _ _ _ _ _ _ us hl => match us, hl with | [_], _ => rfl
theorem bd_Web_links {K : PySem.W.Frag} {f : Addr} {fd : FuncData} (F : Fun K "links" "Web.links" s_Web_links f fd) : Binds K fd ["self"] [] := F.binds fun _ _ _ _ _ _ us hl => match us, hl with | [_], _ => rfl
theorem bd_Web_names {K : PySem.W.Frag} {f : Addr} {fd : FuncData} (F : Fun K "names" "Web.names" s_Web_names f fd) : Binds K fd ["self"] [] := F.binds fun _ _ _ _ _ _ us hl => match us, hl with | [_], _ => rfl
theorem bd__law_pen {K : PySem.W.Frag} {f : Addr} {fd : FuncData} (F : Fun K "_law_pen" "_law_pen" s__law_pen f fd) : Binds K fd ["_law_script"] [] := F.binds fun _ _ _ _ _ _ us hl => match us, hl with | [_], _ => rfl
theorem bd__law_draw {K : PySem.W.Frag} {f : Addr} {fd : FuncData} (F : Fun K "_law_draw" "_law_draw" s__law_draw f fd) : Binds K fd ["_law_pen_here", "_law_many"] [] := F.binds fun _ _ _ _ _ _ us hl => match us, hl with | [_, _], _ => rfl
theorem bd__law_pick {K : PySem.W.Frag} {f : Addr} {fd : FuncData} (F : Fun K "_law_pick" "_law_pick" s__law_pick f fd) : Binds K fd ["_law_pen_here", "_law_some"] [] := F.binds fun _ _ _ _ _ _ us hl => match us, hl with | [_, _], _ => rfl
theorem bd__law_mixed {K : PySem.W.Frag} {f : Addr} {fd : FuncData} (F : Fun K "_law_mixed" "_law_mixed" s__law_mixed f fd) : Binds K fd ["_law_pen_here", "_law_some"] [] := F.binds fun _ _ _ _ _ _ us hl => match us, hl with | [_, _], _ => rfl
theorem bd__law_tied {K : PySem.W.Frag} {f : Addr} {fd : FuncData} (F : Fun K "_law_tied" "_law_tied" s__law_tied f fd) : Binds K fd ["_law_pen_here", "_law_names_here"] [] := F.binds fun _ _ _ _ _ _ us hl => match us, hl with | [_, _], _ => rfl
theorem bd__law_laid {K : PySem.W.Frag} {f : Addr} {fd : FuncData} (F : Fun K "_law_laid" "_law_laid" s__law_laid f fd) : Binds K fd ["_law_tree", "_law_u", "_law_v", "_law_first"] [] := F.binds fun _ _ _ _ _ _ us hl => match us, hl with | [_, _, _, _], _ => rfl
theorem bd__law_net {K : PySem.W.Frag} {f : Addr} {fd : FuncData} (F : Fun K "_law_net" "_law_net" s__law_net f fd) : Binds K fd ["_law_pen_here", "_law_names_here"] [] := F.binds fun _ _ _ _ _ _ us hl => match us, hl with | [_, _], _ => rfl
theorem bd__law_links {K : PySem.W.Frag} {f : Addr} {fd : FuncData} (F : Fun K "_law_links" "_law_links" s__law_links f fd) : Binds K fd ["_law_pen_here", "_law_names_here"] [] := F.binds fun _ _ _ _ _ _ us hl => match us, hl with | [_, _], _ => rfl
theorem bd__law_joined {K : PySem.W.Frag} {f : Addr} {fd : FuncData} (F : Fun K "_law_joined" "_law_joined" s__law_joined f fd) : Binds K fd ["_law_links_here", "_law_names_here"] [] := F.binds fun _ _ _ _ _ _ us hl => match us, hl with | [_, _], _ => rfl
theorem bd__law_choices {K : PySem.W.Frag} {f : Addr} {fd : FuncData} (F : Fun K "_law_choices" "_law_choices" s__law_choices f fd) : Binds K fd ["_law_names_here", "_law_many"] [] := F.binds fun _ _ _ _ _ _ us hl => match us, hl with | [_, _], _ => rfl
theorem bd__law_names {K : PySem.W.Frag} {f : Addr} {fd : FuncData} (F : Fun K "_law_names" "_law_names" s__law_names f fd) : Binds K fd ["_law_links_here"] [] := F.binds fun _ _ _ _ _ _ us hl => match us, hl with | [_], _ => rfl
theorem bd__law_least_ways {K : PySem.W.Frag} {f : Addr} {fd : FuncData} (F : Fun K "_law_least_ways" "_law_least_ways" s__law_least_ways f fd) : Binds K fd ["_law_links_here"] [] := F.binds fun _ _ _ _ _ _ us hl => match us, hl with | [_], _ => rfl
theorem bd__law_bent {K : PySem.W.Frag} {f : Addr} {fd : FuncData} (F : Fun K "_law_bent" "_law_bent" s__law_bent f fd) : Binds K fd ["_law_pen_here", "_law_links_here"] [] := F.binds fun _ _ _ _ _ _ us hl => match us, hl with | [_, _], _ => rfl
theorem bd__law_pair {K : PySem.W.Frag} {f : Addr} {fd : FuncData} (F : Fun K "_law_pair" "_law_pair" s__law_pair f fd) : Binds K fd ["_law_pen_here"] [] := F.binds fun _ _ _ _ _ _ us hl => match us, hl with | [_], _ => rfl
theorem bd__law_is_word {K : PySem.W.Frag} {f : Addr} {fd : FuncData} (F : Fun K "_law_is_word" "_law_is_word" s__law_is_word f fd) : Binds K fd ["_law_thing"] [] := F.binds fun _ _ _ _ _ _ us hl => match us, hl with | [_], _ => rfl
theorem bd__law_are_words {K : PySem.W.Frag} {f : Addr} {fd : FuncData} (F : Fun K "_law_are_words" "_law_are_words" s__law_are_words f fd) : Binds K fd ["_law_thing"] [] := F.binds fun _ _ _ _ _ _ us hl => match us, hl with | [_], _ => rfl
theorem bd__law_due {K : PySem.W.Frag} {f : Addr} {fd : FuncData} (F : Fun K "_law_due" "_law_due" s__law_due f fd) : Binds K fd ["_law_lhs", "_law_rhs", "_law_route", "_law_gap"] [] := F.binds fun _ _ _ _ _ _ us hl => match us, hl with | [_, _, _, _], _ => rfl
theorem bd__law_spoilt {K : PySem.W.Frag} {f : Addr} {fd : FuncData} (F : Fun K "_law_spoilt" "_law_spoilt" s__law_spoilt f fd) : Binds K fd ["_law_pen_here", "_law_names_here"] [] := F.binds fun _ _ _ _ _ _ us hl => match us, hl with | [_, _], _ => rfl
theorem bd__law_web {K : PySem.W.Frag} {f : Addr} {fd : FuncData} (F : Fun K "_law_web" "_law_web" s__law_web f fd) : Binds K fd ["_law_links_here"] [] := F.binds fun _ _ _ _ _ _ us hl => match us, hl with | [_], _ => rfl
theorem bd__law_right {K : PySem.W.Frag} {f : Addr} {fd : FuncData} (F : Fun K "_law_right" "_law_right" s__law_right f fd) : Binds K fd ["_law_lhs", "_law_rhs", "_law_route", "_law_gap"] [] := F.binds fun _ _ _ _ _ _ us hl => match us, hl with | [_, _, _, _], _ => rfl
theorem bd__law_good {K : PySem.W.Frag} {f : Addr} {fd : FuncData} (F : Fun K "_law_good" "_law_good" s__law_good f fd) : Binds K fd ["_law_pen_here", "_law_lhs", "_law_rhs"] [] := F.binds fun _ _ _ _ _ _ us hl => match us, hl with | [_, _, _], _ => rfl
theorem bd_law {K : PySem.W.Frag} {f : Addr} {fd : FuncData} (F : Fun K "law" "law" s_law f fd) : Binds K fd ["_law_script"] [] := F.binds fun _ _ _ _ _ _ us hl => match us, hl with | [_], _ => rfl
end RR
set_option maxHeartbeats 0
/-! the head by one kernel run, the written part as km_head finds it -/
namespace RR
open PySem PySem.W PySem.Calls PyProof.Rows HandSHeadRun
theorem head_kk {r : OpenRow} {q : Program} {H : Hook} {K : Params → Frag} {as : List Addr} {e : ∀ P, as = (K P).map (·.1)} {M : Nat} {loose : List PySem.Str} {d : DefRec} {kwd : List (PySem.Str × PySem.Expr)}
    (hH : H = kHook K as e) (run : ∀ w, RunEqI r q (kHook K as e) (fun s => as.map (getT s)) M loose w)
    (hdef : defOf q r.name = some (d, kwd)) (hp : r.prog.theDef r.name = some (d.params, d.body, d.scope)) (hk : kwWritten? d.params.kwonlyargs d.params.kw_defaults = some kwd)
    (hwr : (!r.writes || r.records.isEmpty) = true) (k1 : r.wellSaid = true) (ok : (chainsOk q && opensWell r.prog && (frees r.toRowW && r.within.isEmpty)) = true) (hb : r.prog.bare) (hw : r.toRowW.promised)
    (call : WalkO q loose (XL q []) H.says r.toRowW d kwd fun f vs => PySem.call f vs) : r.Holds := by
  subst hH
  exact head_imp (H := kHook K as e) (ob := fun s => as.map (getT s)) (fun s => List.map_congr_left fun a _ => getT_eq s a) run hdef hp hk hwr k1 ok hb hw call
end RR
set_option maxHeartbeats 4000000
namespace RR
open PySem PySem.Spec PyProof.Rows L2 LamX
end RR
set_option maxHeartbeats 4000000
namespace RR
open PySem PySem.Spec PyProof.Rows L2
local macro_rules | `(tactic| walk_at "hp") => `(tactic| first | assumption | exact upd_same | (refine hp_new ?_ (by assumption); walk_at "hp") | (refine hp_mut ?_ (by first | assumption | (apply Ne.symm; assumption)); walk_at "hp") | (refine Same.at (by assumption) ?_; walk_at "hp"))
local macro_rules | `(tactic| walk_at "same") => `(tactic| first | exact fun _ _ z => z | assumption | (refine same_new ?_ (by assumption); walk_at "same") | (refine L2.Same.trans ?_ (by assumption); walk_at "same"))
local macro_rules | `(tactic| walk_at "sq") => `(tactic| exact SqL.of (by walk_at "hp"))
local macro_rules | `(tactic| walk_at "sqT") => `(tactic| exact SqT.of (by walk_at "hp"))

open LamX
theorem build {K : PySem.W.Frag} {h : Heap} {mg : Str → Option Value} {fa : Addr} (X : K.In h) (G : h.Ns mainGlobals mg) (hfa : mg "law" = some (.ref fa))
    {C_Web : Addr}
    {C_BadWeb : Addr}
    {C_TooMany : Addr}
    {C_WebError : Addr}
    
    {mc_Web : Value} {MOST_t : Tok} {p_kind : Addr} {rest_kind : List Value} {p_links : Addr} {rest_links : List Value} {p_names : Addr} {rest_names : List Value} {p_link : Addr} {rs_link : List Value} {p_net : Addr} {rs_net : List Value} {p_row : Addr} {rs_row : List Value} {p_bunch : Addr} {rs_bunch : List Value} {p_always : Addr} {rs_always : List Value} {p_never : Addr} {rs_never : List Value}
    
    {LONG_t : Tok}
    {a_RESERVED : Addr} {u_RESERVED0 u_RESERVED1 u_RESERVED2 : Tok} {r_RESERVED0 r_RESERVED1 r_RESERVED2 : Str} {d_RESERVED : Option Addr} {n_RESERVED : Nat} {s_RESERVEDS : Array (Option Value)} {a_SHUT : Addr} {u_SHUT0 : Tok} {r_SHUT0 : Str} {d_SHUT : Option Addr} {n_SHUT : Nat} {s_SHUTS : Array (Option Value)} {a_OPEN : Addr} {u_OPEN0 : Tok} {r_OPEN0 : Str} {d_OPEN : Option Addr} {n_OPEN : Nat} {s_OPENS : Array (Option Value)}
    {f_Web___init__ : Addr} {oc_Web___init__ kV_Web___init__ doc_Web___init__ pm_Web___init__ cd_Web___init__ ct_Web___init__ : Value} {od_Web___init__ an_Web___init__ : Option Addr} {sl_Web___init__ : Array (Option Value)}
    {f_Web_link : Addr} {oc_Web_link kV_Web_link doc_Web_link pm_Web_link cd_Web_link ct_Web_link : Value} {od_Web_link an_Web_link : Option Addr} {sl_Web_link : Array (Option Value)}
    {f_Web_net : Addr} {oc_Web_net kV_Web_net doc_Web_net pm_Web_net cd_Web_net ct_Web_net : Value} {od_Web_net an_Web_net : Option Addr} {sl_Web_net : Array (Option Value)}
    {f_Web_row : Addr} {oc_Web_row kV_Web_row doc_Web_row pm_Web_row cd_Web_row ct_Web_row : Value} {od_Web_row an_Web_row : Option Addr} {sl_Web_row : Array (Option Value)}
    {f_Web_bunch : Addr} {oc_Web_bunch kV_Web_bunch doc_Web_bunch pm_Web_bunch cd_Web_bunch ct_Web_bunch : Value} {od_Web_bunch an_Web_bunch : Option Addr} {sl_Web_bunch : Array (Option Value)}
    {f_Web_always : Addr} {oc_Web_always kV_Web_always doc_Web_always pm_Web_always cd_Web_always ct_Web_always : Value} {od_Web_always an_Web_always : Option Addr} {sl_Web_always : Array (Option Value)}
    {f_Web_never : Addr} {oc_Web_never kV_Web_never doc_Web_never pm_Web_never cd_Web_never ct_Web_never : Value} {od_Web_never an_Web_never : Option Addr} {sl_Web_never : Array (Option Value)}
    {f_Web_kind : Addr} {oc_Web_kind kV_Web_kind doc_Web_kind pm_Web_kind cd_Web_kind ct_Web_kind : Value} {od_Web_kind an_Web_kind : Option Addr} {sl_Web_kind : Array (Option Value)}
    {f_Web_links : Addr} {oc_Web_links kV_Web_links doc_Web_links pm_Web_links cd_Web_links ct_Web_links : Value} {od_Web_links an_Web_links : Option Addr} {sl_Web_links : Array (Option Value)}
    {f_Web_names : Addr} {oc_Web_names kV_Web_names doc_Web_names pm_Web_names cd_Web_names ct_Web_names : Value} {od_Web_names an_Web_names : Option Addr} {sl_Web_names : Array (Option Value)}
    {f_Web___and__ : Addr} {oc_Web___and__ kV_Web___and__ doc_Web___and__ pm_Web___and__ cd_Web___and__ ct_Web___and__ : Value} {od_Web___and__ an_Web___and__ : Option Addr} {sl_Web___and__ : Array (Option Value)}
    {f_Web___or__ : Addr} {oc_Web___or__ kV_Web___or__ doc_Web___or__ pm_Web___or__ cd_Web___or__ ct_Web___or__ : Value} {od_Web___or__ an_Web___or__ : Option Addr} {sl_Web___or__ : Array (Option Value)}
    {f_is_int : Addr} {oc_is_int kV_is_int doc_is_int pm_is_int cd_is_int ct_is_int : Value} {od_is_int an_is_int : Option Addr} {sl_is_int : Array (Option Value)}
    {f_is_name : Addr} {oc_is_name kV_is_name doc_is_name pm_is_name cd_is_name ct_is_name : Value} {od_is_name an_is_name : Option Addr} {sl_is_name : Array (Option Value)}
    {f_ordered_links : Addr} {oc_ordered_links kV_ordered_links doc_ordered_links pm_ordered_links cd_ordered_links ct_ordered_links : Value} {od_ordered_links an_ordered_links : Option Addr} {sl_ordered_links : Array (Option Value)}
    {f_joints_of : Addr} {oc_joints_of kV_joints_of doc_joints_of pm_joints_of cd_joints_of ct_joints_of : Value} {od_joints_of an_joints_of : Option Addr} {sl_joints_of : Array (Option Value)}
    {f_net_shape : Addr} {oc_net_shape kV_net_shape doc_net_shape pm_net_shape cd_net_shape ct_net_shape : Value} {od_net_shape an_net_shape : Option Addr} {sl_net_shape : Array (Option Value)}
    {f_compound : Addr} {oc_compound kV_compound doc_compound pm_compound cd_compound ct_compound : Value} {od_compound an_compound : Option Addr} {sl_compound : Array (Option Value)}
    {f_moved_links : Addr} {oc_moved_links kV_moved_links doc_moved_links pm_moved_links cd_moved_links ct_moved_links : Value} {od_moved_links an_moved_links : Option Addr} {sl_moved_links : Array (Option Value)}
    {f_laid_net : Addr} {oc_laid_net kV_laid_net doc_laid_net pm_laid_net cd_laid_net ct_laid_net : Value} {od_laid_net an_laid_net : Option Addr} {sl_laid_net : Array (Option Value)}
    {f_laid : Addr} {oc_laid kV_laid doc_laid pm_laid cd_laid ct_laid : Value} {od_laid an_laid : Option Addr} {sl_laid : Array (Option Value)}
    {f_laid_row : Addr} {oc_laid_row kV_laid_row doc_laid_row pm_laid_row cd_laid_row ct_laid_row : Value} {od_laid_row an_laid_row : Option Addr} {sl_laid_row : Array (Option Value)}
    {f_links_of : Addr} {oc_links_of kV_links_of doc_links_of pm_links_of cd_links_of ct_links_of : Value} {od_links_of an_links_of : Option Addr} {sl_links_of : Array (Option Value)}
    {f_is_netless : Addr} {oc_is_netless kV_is_netless doc_is_netless pm_is_netless cd_is_netless ct_is_netless : Value} {od_is_netless an_is_netless : Option Addr} {sl_is_netless : Array (Option Value)}
    {f_text_of : Addr} {oc_text_of kV_text_of doc_text_of pm_text_of cd_text_of ct_text_of : Value} {od_text_of an_text_of : Option Addr} {sl_text_of : Array (Option Value)}
    {f_is_link : Addr} {oc_is_link kV_is_link doc_is_link pm_is_link cd_is_link ct_is_link : Value} {od_is_link an_is_link : Option Addr} {sl_is_link : Array (Option Value)}
    {f_shape_of : Addr} {oc_shape_of kV_shape_of doc_shape_of pm_shape_of cd_shape_of ct_shape_of : Value} {od_shape_of an_shape_of : Option Addr} {sl_shape_of : Array (Option Value)}
    {f_web_of : Addr} {oc_web_of kV_web_of doc_web_of pm_web_of cd_web_of ct_web_of : Value} {od_web_of an_web_of : Option Addr} {sl_web_of : Array (Option Value)}
    {f_reached : Addr} {oc_reached kV_reached doc_reached pm_reached cd_reached ct_reached : Value} {od_reached an_reached : Option Addr} {sl_reached : Array (Option Value)}
    {f_joins : Addr} {oc_joins kV_joins doc_joins pm_joins cd_joins ct_joins : Value} {od_joins an_joins : Option Addr} {sl_joins : Array (Option Value)}
    {f_are_names : Addr} {oc_are_names kV_are_names doc_are_names pm_are_names cd_are_names ct_are_names : Value} {od_are_names an_are_names : Option Addr} {sl_are_names : Array (Option Value)}
    {f_shows_apart : Addr} {oc_shows_apart kV_shows_apart doc_shows_apart pm_shows_apart cd_shows_apart ct_shows_apart : Value} {od_shows_apart an_shows_apart : Option Addr} {sl_shows_apart : Array (Option Value)}
    {f__law_pen : Addr} {oc__law_pen kV__law_pen doc__law_pen pm__law_pen cd__law_pen ct__law_pen : Value} {od__law_pen an__law_pen : Option Addr} {sl__law_pen : Array (Option Value)}
    {f__law_draw : Addr} {oc__law_draw kV__law_draw doc__law_draw pm__law_draw cd__law_draw ct__law_draw : Value} {od__law_draw an__law_draw : Option Addr} {sl__law_draw : Array (Option Value)}
    {f__law_pick : Addr} {oc__law_pick kV__law_pick doc__law_pick pm__law_pick cd__law_pick ct__law_pick : Value} {od__law_pick an__law_pick : Option Addr} {sl__law_pick : Array (Option Value)}
    {f__law_mixed : Addr} {oc__law_mixed kV__law_mixed doc__law_mixed pm__law_mixed cd__law_mixed ct__law_mixed : Value} {od__law_mixed an__law_mixed : Option Addr} {sl__law_mixed : Array (Option Value)}
    {f__law_tied : Addr} {oc__law_tied kV__law_tied doc__law_tied pm__law_tied cd__law_tied ct__law_tied : Value} {od__law_tied an__law_tied : Option Addr} {sl__law_tied : Array (Option Value)}
    {f__law_laid : Addr} {oc__law_laid kV__law_laid doc__law_laid pm__law_laid cd__law_laid ct__law_laid : Value} {od__law_laid an__law_laid : Option Addr} {sl__law_laid : Array (Option Value)}
    {f__law_net : Addr} {oc__law_net kV__law_net doc__law_net pm__law_net cd__law_net ct__law_net : Value} {od__law_net an__law_net : Option Addr} {sl__law_net : Array (Option Value)}
    {f__law_links : Addr} {oc__law_links kV__law_links doc__law_links pm__law_links cd__law_links ct__law_links : Value} {od__law_links an__law_links : Option Addr} {sl__law_links : Array (Option Value)}
    {f__law_joined : Addr} {oc__law_joined kV__law_joined doc__law_joined pm__law_joined cd__law_joined ct__law_joined : Value} {od__law_joined an__law_joined : Option Addr} {sl__law_joined : Array (Option Value)}
    {f__law_choices : Addr} {oc__law_choices kV__law_choices doc__law_choices pm__law_choices cd__law_choices ct__law_choices : Value} {od__law_choices an__law_choices : Option Addr} {sl__law_choices : Array (Option Value)}
    {f__law_names : Addr} {oc__law_names kV__law_names doc__law_names pm__law_names cd__law_names ct__law_names : Value} {od__law_names an__law_names : Option Addr} {sl__law_names : Array (Option Value)}
    {f__law_least_ways : Addr} {oc__law_least_ways kV__law_least_ways doc__law_least_ways pm__law_least_ways cd__law_least_ways ct__law_least_ways : Value} {od__law_least_ways an__law_least_ways : Option Addr} {sl__law_least_ways : Array (Option Value)}
    {f__law_bent : Addr} {oc__law_bent kV__law_bent doc__law_bent pm__law_bent cd__law_bent ct__law_bent : Value} {od__law_bent an__law_bent : Option Addr} {sl__law_bent : Array (Option Value)}
    {f__law_pair : Addr} {oc__law_pair kV__law_pair doc__law_pair pm__law_pair cd__law_pair ct__law_pair : Value} {od__law_pair an__law_pair : Option Addr} {sl__law_pair : Array (Option Value)}
    {f__law_is_word : Addr} {oc__law_is_word kV__law_is_word doc__law_is_word pm__law_is_word cd__law_is_word ct__law_is_word : Value} {od__law_is_word an__law_is_word : Option Addr} {sl__law_is_word : Array (Option Value)}
    {f__law_are_words : Addr} {oc__law_are_words kV__law_are_words doc__law_are_words pm__law_are_words cd__law_are_words ct__law_are_words : Value} {od__law_are_words an__law_are_words : Option Addr} {sl__law_are_words : Array (Option Value)}
    {f__law_due : Addr} {oc__law_due kV__law_due doc__law_due pm__law_due cd__law_due ct__law_due : Value} {od__law_due an__law_due : Option Addr} {sl__law_due : Array (Option Value)}
    {f__law_spoilt : Addr} {oc__law_spoilt kV__law_spoilt doc__law_spoilt pm__law_spoilt cd__law_spoilt ct__law_spoilt : Value} {od__law_spoilt an__law_spoilt : Option Addr} {sl__law_spoilt : Array (Option Value)}
    {f__law_web : Addr} {oc__law_web kV__law_web doc__law_web pm__law_web cd__law_web ct__law_web : Value} {od__law_web an__law_web : Option Addr} {sl__law_web : Array (Option Value)}
    {f__law_right : Addr} {oc__law_right kV__law_right doc__law_right pm__law_right cd__law_right ct__law_right : Value} {od__law_right an__law_right : Option Addr} {sl__law_right : Array (Option Value)}
    {f__law_good : Addr} {oc__law_good kV__law_good doc__law_good pm__law_good cd__law_good ct__law_good : Value} {od__law_good an__law_good : Option Addr} {sl__law_good : Array (Option Value)}
    {f_law : Addr} {oc_law kV_law doc_law pm_law cd_law ct_law : Value} {od_law an_law : Option Addr} {sl_law : Array (Option Value)}
    (aC_Web : PySem.W.nsIn K mainGlobals "Web" = some (some (.ref C_Web)))
    (aC_BadWeb : PySem.W.nsIn K mainGlobals "BadWeb" = some (some (.ref C_BadWeb)))
    (aC_TooMany : PySem.W.nsIn K mainGlobals "TooMany" = some (some (.ref C_TooMany)))
    (aC_WebError : PySem.W.nsIn K mainGlobals "WebError" = some (some (.ref C_WebError)))
    (cn : PySem.W.specialIn K (.builtin "object.__class__") "__get__" = some (some (.builtin "getset_descriptor.__get__")))
    (ct : PySem.W.takesIn K (.builtin "object.__class__") = some true)
    (pgW : PySem.W.plainGet K C_Web Str.empty = true)
    (hdW : PySem.W.hasDictIn K C_Web = true)
    (poW : PySem.W.plainOver K C_Web = true)
    (saW : PySem.W.findIn K (.ref C_Web) "__setattr__" = some (some (.builtin "object.__setattr__")))
    (nSh : PySem.W.findIn K (.ref C_Web) "shape" = some none)
    (nLa : PySem.W.findIn K (.ref C_Web) "laid_links" = some none)
    (iW : PySem.W.findIn K (.ref C_Web) "__init__" = some (some (.ref f_Web___init__)))
    (jW : PySem.W.isFn K (.ref f_Web___init__) = true)
    (mkW1 : PySem.W.makesIn K C_Web = true)
    (mkW2 : PySem.W.keepIn K (.ref C_Web) = true)
    (caW : PySem.W.findIn K (.ref C_Web) "__class__" = some (some (.builtin "object.__class__")))
    (cmW : PySem.W.mroIn K C_Web (.type "object") = some true)
    (styW : PySem.W.typeIn K (.ref C_Web) = some mc_Web)
    (srdW : PySem.W.readsIn K C_Web mc_Web = true)
    (sgaW : PySem.W.specialIn K (.ref C_Web) "__getattribute__" = some (some (.builtin "type.__getattribute__")))
    (nfW : PySem.W.notFirst K C_Web (.ref C_Web) = true)
    (kWSt : PySem.W.kitOne K (.ref C_Web) (.type "str") = some false)
    (atM : PySem.W.findCls K (.ref C_Web) mc_Web "MOST" = some (.val (.int 14 MOST_t)))
    (vi_kind : PySem.W.findIn K (.ref C_Web) "kind" = some (some (.ref p_kind)))
    (vg_kind : PySem.W.specialIn K (.ref p_kind) "__get__" = some (some (.builtin "property.__get__")))
    (vt_kind : PySem.W.takesIn K (.ref p_kind) = some true)
    (vr_kind : PySem.W.recIn K p_kind "property" = some (.ref f_Web_kind :: rest_kind))
    (vi_links : PySem.W.findIn K (.ref C_Web) "links" = some (some (.ref p_links)))
    (vg_links : PySem.W.specialIn K (.ref p_links) "__get__" = some (some (.builtin "property.__get__")))
    (vt_links : PySem.W.takesIn K (.ref p_links) = some true)
    (vr_links : PySem.W.recIn K p_links "property" = some (.ref f_Web_links :: rest_links))
    (vi_names : PySem.W.findIn K (.ref C_Web) "names" = some (some (.ref p_names)))
    (vg_names : PySem.W.specialIn K (.ref p_names) "__get__" = some (some (.builtin "property.__get__")))
    (vt_names : PySem.W.takesIn K (.ref p_names) = some true)
    (vr_names : PySem.W.recIn K p_names "property" = some (.ref f_Web_names :: rest_names))
    (sat_link : PySem.W.findCls K (.ref C_Web) mc_Web "link" = some (.get (.builtin "staticmethod.__get__") (.ref p_link) .none (.ref C_Web)))
    (src_link : PySem.W.recIn K p_link "staticmethod" = some (.ref f_Web_link :: rs_link))
    (skp_link : PySem.W.keepIn K (.ref f_Web_link) = true)
    (sat_net : PySem.W.findCls K (.ref C_Web) mc_Web "net" = some (.get (.builtin "staticmethod.__get__") (.ref p_net) .none (.ref C_Web)))
    (src_net : PySem.W.recIn K p_net "staticmethod" = some (.ref f_Web_net :: rs_net))
    (skp_net : PySem.W.keepIn K (.ref f_Web_net) = true)
    (sat_row : PySem.W.findCls K (.ref C_Web) mc_Web "row" = some (.get (.builtin "staticmethod.__get__") (.ref p_row) .none (.ref C_Web)))
    (src_row : PySem.W.recIn K p_row "staticmethod" = some (.ref f_Web_row :: rs_row))
    (skp_row : PySem.W.keepIn K (.ref f_Web_row) = true)
    (sat_bunch : PySem.W.findCls K (.ref C_Web) mc_Web "bunch" = some (.get (.builtin "staticmethod.__get__") (.ref p_bunch) .none (.ref C_Web)))
    (src_bunch : PySem.W.recIn K p_bunch "staticmethod" = some (.ref f_Web_bunch :: rs_bunch))
    (skp_bunch : PySem.W.keepIn K (.ref f_Web_bunch) = true)
    (sat_always : PySem.W.findCls K (.ref C_Web) mc_Web "always" = some (.get (.builtin "staticmethod.__get__") (.ref p_always) .none (.ref C_Web)))
    (src_always : PySem.W.recIn K p_always "staticmethod" = some (.ref f_Web_always :: rs_always))
    (skp_always : PySem.W.keepIn K (.ref f_Web_always) = true)
    (sat_never : PySem.W.findCls K (.ref C_Web) mc_Web "never" = some (.get (.builtin "staticmethod.__get__") (.ref p_never) .none (.ref C_Web)))
    (src_never : PySem.W.recIn K p_never "staticmethod" = some (.ref f_Web_never :: rs_never))
    (skp_never : PySem.W.keepIn K (.ref f_Web_never) = true)
    (sfW_ : PySem.W.selfFirst K C_Web = true)
    (i_andW : PySem.W.findIn K (.ref C_Web) "__and__" = some (some (.ref f_Web___and__)))
    (j_andW : PySem.W.isFn K (.ref f_Web___and__) = true)
    (i_orW : PySem.W.findIn K (.ref C_Web) "__or__" = some (some (.ref f_Web___or__)))
    (j_orW : PySem.W.isFn K (.ref f_Web___or__) = true)
    (aLG : PySem.W.nsIn K mainGlobals "LONGEST" = some (some (.int 8 LONG_t)))
    (aG_RESERVED : PySem.W.nsIn K mainGlobals "RESERVED" = some (some (.ref a_RESERVED)))
    (lG_RESERVED : K.lookup a_RESERVED = some ⟨.type "tuple", d_RESERVED, .seq #[.str r_RESERVED0 u_RESERVED0, .str r_RESERVED1 u_RESERVED1, .str r_RESERVED2 u_RESERVED2] n_RESERVED, s_RESERVEDS⟩)
    (eG_RESERVED0 : r_RESERVED0 = "open")
    (eG_RESERVED1 : r_RESERVED1 = "shut")
    (eG_RESERVED2 : r_RESERVED2 = "net")
    (aG_SHUT : PySem.W.nsIn K mainGlobals "SHUT" = some (some (.ref a_SHUT)))
    (lG_SHUT : K.lookup a_SHUT = some ⟨.type "tuple", d_SHUT, .seq #[.str r_SHUT0 u_SHUT0] n_SHUT, s_SHUTS⟩)
    (eG_SHUT0 : r_SHUT0 = "shut")
    (aG_OPEN : PySem.W.nsIn K mainGlobals "OPEN" = some (some (.ref a_OPEN)))
    (lG_OPEN : K.lookup a_OPEN = some ⟨.type "tuple", d_OPEN, .seq #[.str r_OPEN0 u_OPEN0] n_OPEN, s_OPENS⟩)
    (eG_OPEN0 : r_OPEN0 = "open")
    (l_Web___init__ : K.lookup f_Web___init__ = some ⟨oc_Web___init__, od_Web___init__, .func (PySem.W.fnOf "__init__" "Web.__init__" (defArgs s_Web___init__) (defBody s_Web___init__) (defScope s_Web___init__) .none kV_Web___init__ doc_Web___init__ pm_Web___init__ an_Web___init__ cd_Web___init__ ct_Web___init__), sl_Web___init__⟩)
    (c_Web___init__ : PySem.W.codeIn K cd_Web___init__ "Web.__init__" = true)
    (k_Web___init__ : PySem.W.keepIn K (.ref f_Web___init__) = true)
    (l_Web_link : K.lookup f_Web_link = some ⟨oc_Web_link, od_Web_link, .func (PySem.W.fnOf "link" "Web.link" (defArgs s_Web_link) (defBody s_Web_link) (defScope s_Web_link) .none kV_Web_link doc_Web_link pm_Web_link an_Web_link cd_Web_link ct_Web_link), sl_Web_link⟩)
    (c_Web_link : PySem.W.codeIn K cd_Web_link "Web.link" = true)
    (k_Web_link : PySem.W.keepIn K (.ref f_Web_link) = true)
    (l_Web_net : K.lookup f_Web_net = some ⟨oc_Web_net, od_Web_net, .func (PySem.W.fnOf "net" "Web.net" (defArgs s_Web_net) (defBody s_Web_net) (defScope s_Web_net) .none kV_Web_net doc_Web_net pm_Web_net an_Web_net cd_Web_net ct_Web_net), sl_Web_net⟩)
    (c_Web_net : PySem.W.codeIn K cd_Web_net "Web.net" = true)
    (k_Web_net : PySem.W.keepIn K (.ref f_Web_net) = true)
    (l_Web_row : K.lookup f_Web_row = some ⟨oc_Web_row, od_Web_row, .func (PySem.W.fnOf "row" "Web.row" (defArgs s_Web_row) (defBody s_Web_row) (defScope s_Web_row) .none kV_Web_row doc_Web_row pm_Web_row an_Web_row cd_Web_row ct_Web_row), sl_Web_row⟩)
    (c_Web_row : PySem.W.codeIn K cd_Web_row "Web.row" = true)
    (k_Web_row : PySem.W.keepIn K (.ref f_Web_row) = true)
    (l_Web_bunch : K.lookup f_Web_bunch = some ⟨oc_Web_bunch, od_Web_bunch, .func (PySem.W.fnOf "bunch" "Web.bunch" (defArgs s_Web_bunch) (defBody s_Web_bunch) (defScope s_Web_bunch) .none kV_Web_bunch doc_Web_bunch pm_Web_bunch an_Web_bunch cd_Web_bunch ct_Web_bunch), sl_Web_bunch⟩)
    (c_Web_bunch : PySem.W.codeIn K cd_Web_bunch "Web.bunch" = true)
    (k_Web_bunch : PySem.W.keepIn K (.ref f_Web_bunch) = true)
    (l_Web_always : K.lookup f_Web_always = some ⟨oc_Web_always, od_Web_always, .func (PySem.W.fnOf "always" "Web.always" (defArgs s_Web_always) (defBody s_Web_always) (defScope s_Web_always) .none kV_Web_always doc_Web_always pm_Web_always an_Web_always cd_Web_always ct_Web_always), sl_Web_always⟩)
    (c_Web_always : PySem.W.codeIn K cd_Web_always "Web.always" = true)
    (k_Web_always : PySem.W.keepIn K (.ref f_Web_always) = true)
    (l_Web_never : K.lookup f_Web_never = some ⟨oc_Web_never, od_Web_never, .func (PySem.W.fnOf "never" "Web.never" (defArgs s_Web_never) (defBody s_Web_never) (defScope s_Web_never) .none kV_Web_never doc_Web_never pm_Web_never an_Web_never cd_Web_never ct_Web_never), sl_Web_never⟩)
    (c_Web_never : PySem.W.codeIn K cd_Web_never "Web.never" = true)
    (k_Web_never : PySem.W.keepIn K (.ref f_Web_never) = true)
    (l_Web_kind : K.lookup f_Web_kind = some ⟨oc_Web_kind, od_Web_kind, .func (PySem.W.fnOf "kind" "Web.kind" (defArgs s_Web_kind) (defBody s_Web_kind) (defScope s_Web_kind) .none kV_Web_kind doc_Web_kind pm_Web_kind an_Web_kind cd_Web_kind ct_Web_kind), sl_Web_kind⟩)
    (c_Web_kind : PySem.W.codeIn K cd_Web_kind "Web.kind" = true)
    (k_Web_kind : PySem.W.keepIn K (.ref f_Web_kind) = true)
    (l_Web_links : K.lookup f_Web_links = some ⟨oc_Web_links, od_Web_links, .func (PySem.W.fnOf "links" "Web.links" (defArgs s_Web_links) (defBody s_Web_links) (defScope s_Web_links) .none kV_Web_links doc_Web_links pm_Web_links an_Web_links cd_Web_links ct_Web_links), sl_Web_links⟩)
    (c_Web_links : PySem.W.codeIn K cd_Web_links "Web.links" = true)
    (k_Web_links : PySem.W.keepIn K (.ref f_Web_links) = true)
    (l_Web_names : K.lookup f_Web_names = some ⟨oc_Web_names, od_Web_names, .func (PySem.W.fnOf "names" "Web.names" (defArgs s_Web_names) (defBody s_Web_names) (defScope s_Web_names) .none kV_Web_names doc_Web_names pm_Web_names an_Web_names cd_Web_names ct_Web_names), sl_Web_names⟩)
    (c_Web_names : PySem.W.codeIn K cd_Web_names "Web.names" = true)
    (k_Web_names : PySem.W.keepIn K (.ref f_Web_names) = true)
    (l_Web___and__ : K.lookup f_Web___and__ = some ⟨oc_Web___and__, od_Web___and__, .func (PySem.W.fnOf "__and__" "Web.__and__" (defArgs s_Web___and__) (defBody s_Web___and__) (defScope s_Web___and__) .none kV_Web___and__ doc_Web___and__ pm_Web___and__ an_Web___and__ cd_Web___and__ ct_Web___and__), sl_Web___and__⟩)
    (c_Web___and__ : PySem.W.codeIn K cd_Web___and__ "Web.__and__" = true)
    (k_Web___and__ : PySem.W.keepIn K (.ref f_Web___and__) = true)
    (l_Web___or__ : K.lookup f_Web___or__ = some ⟨oc_Web___or__, od_Web___or__, .func (PySem.W.fnOf "__or__" "Web.__or__" (defArgs s_Web___or__) (defBody s_Web___or__) (defScope s_Web___or__) .none kV_Web___or__ doc_Web___or__ pm_Web___or__ an_Web___or__ cd_Web___or__ ct_Web___or__), sl_Web___or__⟩)
    (c_Web___or__ : PySem.W.codeIn K cd_Web___or__ "Web.__or__" = true)
    (k_Web___or__ : PySem.W.keepIn K (.ref f_Web___or__) = true)
    (a_is_int : PySem.W.nsIn K mainGlobals "is_int" = some (some (.ref f_is_int)))
    (l_is_int : K.lookup f_is_int = some ⟨oc_is_int, od_is_int, .func (PySem.W.fnOf "is_int" "is_int" (defArgs s_is_int) (defBody s_is_int) (defScope s_is_int) .none kV_is_int doc_is_int pm_is_int an_is_int cd_is_int ct_is_int), sl_is_int⟩)
    (c_is_int : PySem.W.codeIn K cd_is_int "is_int" = true)
    (k_is_int : PySem.W.keepIn K (.ref f_is_int) = true)
    (a_is_name : PySem.W.nsIn K mainGlobals "is_name" = some (some (.ref f_is_name)))
    (l_is_name : K.lookup f_is_name = some ⟨oc_is_name, od_is_name, .func (PySem.W.fnOf "is_name" "is_name" (defArgs s_is_name) (defBody s_is_name) (defScope s_is_name) .none kV_is_name doc_is_name pm_is_name an_is_name cd_is_name ct_is_name), sl_is_name⟩)
    (c_is_name : PySem.W.codeIn K cd_is_name "is_name" = true)
    (k_is_name : PySem.W.keepIn K (.ref f_is_name) = true)
    (a_ordered_links : PySem.W.nsIn K mainGlobals "ordered_links" = some (some (.ref f_ordered_links)))
    (l_ordered_links : K.lookup f_ordered_links = some ⟨oc_ordered_links, od_ordered_links, .func (PySem.W.fnOf "ordered_links" "ordered_links" (defArgs s_ordered_links) (defBody s_ordered_links) (defScope s_ordered_links) .none kV_ordered_links doc_ordered_links pm_ordered_links an_ordered_links cd_ordered_links ct_ordered_links), sl_ordered_links⟩)
    (c_ordered_links : PySem.W.codeIn K cd_ordered_links "ordered_links" = true)
    (k_ordered_links : PySem.W.keepIn K (.ref f_ordered_links) = true)
    (a_joints_of : PySem.W.nsIn K mainGlobals "joints_of" = some (some (.ref f_joints_of)))
    (l_joints_of : K.lookup f_joints_of = some ⟨oc_joints_of, od_joints_of, .func (PySem.W.fnOf "joints_of" "joints_of" (defArgs s_joints_of) (defBody s_joints_of) (defScope s_joints_of) .none kV_joints_of doc_joints_of pm_joints_of an_joints_of cd_joints_of ct_joints_of), sl_joints_of⟩)
    (c_joints_of : PySem.W.codeIn K cd_joints_of "joints_of" = true)
    (k_joints_of : PySem.W.keepIn K (.ref f_joints_of) = true)
    (a_net_shape : PySem.W.nsIn K mainGlobals "net_shape" = some (some (.ref f_net_shape)))
    (l_net_shape : K.lookup f_net_shape = some ⟨oc_net_shape, od_net_shape, .func (PySem.W.fnOf "net_shape" "net_shape" (defArgs s_net_shape) (defBody s_net_shape) (defScope s_net_shape) .none kV_net_shape doc_net_shape pm_net_shape an_net_shape cd_net_shape ct_net_shape), sl_net_shape⟩)
    (c_net_shape : PySem.W.codeIn K cd_net_shape "net_shape" = true)
    (k_net_shape : PySem.W.keepIn K (.ref f_net_shape) = true)
    (a_compound : PySem.W.nsIn K mainGlobals "compound" = some (some (.ref f_compound)))
    (l_compound : K.lookup f_compound = some ⟨oc_compound, od_compound, .func (PySem.W.fnOf "compound" "compound" (defArgs s_compound) (defBody s_compound) (defScope s_compound) .none kV_compound doc_compound pm_compound an_compound cd_compound ct_compound), sl_compound⟩)
    (c_compound : PySem.W.codeIn K cd_compound "compound" = true)
    (k_compound : PySem.W.keepIn K (.ref f_compound) = true)
    (a_moved_links : PySem.W.nsIn K mainGlobals "moved_links" = some (some (.ref f_moved_links)))
    (l_moved_links : K.lookup f_moved_links = some ⟨oc_moved_links, od_moved_links, .func (PySem.W.fnOf "moved_links" "moved_links" (defArgs s_moved_links) (defBody s_moved_links) (defScope s_moved_links) .none kV_moved_links doc_moved_links pm_moved_links an_moved_links cd_moved_links ct_moved_links), sl_moved_links⟩)
    (c_moved_links : PySem.W.codeIn K cd_moved_links "moved_links" = true)
    (k_moved_links : PySem.W.keepIn K (.ref f_moved_links) = true)
    (a_laid_net : PySem.W.nsIn K mainGlobals "laid_net" = some (some (.ref f_laid_net)))
    (l_laid_net : K.lookup f_laid_net = some ⟨oc_laid_net, od_laid_net, .func (PySem.W.fnOf "laid_net" "laid_net" (defArgs s_laid_net) (defBody s_laid_net) (defScope s_laid_net) .none kV_laid_net doc_laid_net pm_laid_net an_laid_net cd_laid_net ct_laid_net), sl_laid_net⟩)
    (c_laid_net : PySem.W.codeIn K cd_laid_net "laid_net" = true)
    (k_laid_net : PySem.W.keepIn K (.ref f_laid_net) = true)
    (a_laid : PySem.W.nsIn K mainGlobals "laid" = some (some (.ref f_laid)))
    (l_laid : K.lookup f_laid = some ⟨oc_laid, od_laid, .func (PySem.W.fnOf "laid" "laid" (defArgs s_laid) (defBody s_laid) (defScope s_laid) .none kV_laid doc_laid pm_laid an_laid cd_laid ct_laid), sl_laid⟩)
    (c_laid : PySem.W.codeIn K cd_laid "laid" = true)
    (k_laid : PySem.W.keepIn K (.ref f_laid) = true)
    (a_laid_row : PySem.W.nsIn K mainGlobals "laid_row" = some (some (.ref f_laid_row)))
    (l_laid_row : K.lookup f_laid_row = some ⟨oc_laid_row, od_laid_row, .func (PySem.W.fnOf "laid_row" "laid_row" (defArgs s_laid_row) (defBody s_laid_row) (defScope s_laid_row) .none kV_laid_row doc_laid_row pm_laid_row an_laid_row cd_laid_row ct_laid_row), sl_laid_row⟩)
    (c_laid_row : PySem.W.codeIn K cd_laid_row "laid_row" = true)
    (k_laid_row : PySem.W.keepIn K (.ref f_laid_row) = true)
    (a_links_of : PySem.W.nsIn K mainGlobals "links_of" = some (some (.ref f_links_of)))
    (l_links_of : K.lookup f_links_of = some ⟨oc_links_of, od_links_of, .func (PySem.W.fnOf "links_of" "links_of" (defArgs s_links_of) (defBody s_links_of) (defScope s_links_of) .none kV_links_of doc_links_of pm_links_of an_links_of cd_links_of ct_links_of), sl_links_of⟩)
    (c_links_of : PySem.W.codeIn K cd_links_of "links_of" = true)
    (k_links_of : PySem.W.keepIn K (.ref f_links_of) = true)
    (a_is_netless : PySem.W.nsIn K mainGlobals "is_netless" = some (some (.ref f_is_netless)))
    (l_is_netless : K.lookup f_is_netless = some ⟨oc_is_netless, od_is_netless, .func (PySem.W.fnOf "is_netless" "is_netless" (defArgs s_is_netless) (defBody s_is_netless) (defScope s_is_netless) .none kV_is_netless doc_is_netless pm_is_netless an_is_netless cd_is_netless ct_is_netless), sl_is_netless⟩)
    (c_is_netless : PySem.W.codeIn K cd_is_netless "is_netless" = true)
    (k_is_netless : PySem.W.keepIn K (.ref f_is_netless) = true)
    (a_text_of : PySem.W.nsIn K mainGlobals "text_of" = some (some (.ref f_text_of)))
    (l_text_of : K.lookup f_text_of = some ⟨oc_text_of, od_text_of, .func (PySem.W.fnOf "text_of" "text_of" (defArgs s_text_of) (defBody s_text_of) (defScope s_text_of) .none kV_text_of doc_text_of pm_text_of an_text_of cd_text_of ct_text_of), sl_text_of⟩)
    (c_text_of : PySem.W.codeIn K cd_text_of "text_of" = true)
    (k_text_of : PySem.W.keepIn K (.ref f_text_of) = true)
    (a_is_link : PySem.W.nsIn K mainGlobals "is_link" = some (some (.ref f_is_link)))
    (l_is_link : K.lookup f_is_link = some ⟨oc_is_link, od_is_link, .func (PySem.W.fnOf "is_link" "is_link" (defArgs s_is_link) (defBody s_is_link) (defScope s_is_link) .none kV_is_link doc_is_link pm_is_link an_is_link cd_is_link ct_is_link), sl_is_link⟩)
    (c_is_link : PySem.W.codeIn K cd_is_link "is_link" = true)
    (k_is_link : PySem.W.keepIn K (.ref f_is_link) = true)
    (a_shape_of : PySem.W.nsIn K mainGlobals "shape_of" = some (some (.ref f_shape_of)))
    (l_shape_of : K.lookup f_shape_of = some ⟨oc_shape_of, od_shape_of, .func (PySem.W.fnOf "shape_of" "shape_of" (defArgs s_shape_of) (defBody s_shape_of) (defScope s_shape_of) .none kV_shape_of doc_shape_of pm_shape_of an_shape_of cd_shape_of ct_shape_of), sl_shape_of⟩)
    (c_shape_of : PySem.W.codeIn K cd_shape_of "shape_of" = true)
    (k_shape_of : PySem.W.keepIn K (.ref f_shape_of) = true)
    (a_web_of : PySem.W.nsIn K mainGlobals "web_of" = some (some (.ref f_web_of)))
    (l_web_of : K.lookup f_web_of = some ⟨oc_web_of, od_web_of, .func (PySem.W.fnOf "web_of" "web_of" (defArgs s_web_of) (defBody s_web_of) (defScope s_web_of) .none kV_web_of doc_web_of pm_web_of an_web_of cd_web_of ct_web_of), sl_web_of⟩)
    (c_web_of : PySem.W.codeIn K cd_web_of "web_of" = true)
    (k_web_of : PySem.W.keepIn K (.ref f_web_of) = true)
    (a_reached : PySem.W.nsIn K mainGlobals "reached" = some (some (.ref f_reached)))
    (l_reached : K.lookup f_reached = some ⟨oc_reached, od_reached, .func (PySem.W.fnOf "reached" "reached" (defArgs s_reached) (defBody s_reached) (defScope s_reached) .none kV_reached doc_reached pm_reached an_reached cd_reached ct_reached), sl_reached⟩)
    (c_reached : PySem.W.codeIn K cd_reached "reached" = true)
    (k_reached : PySem.W.keepIn K (.ref f_reached) = true)
    (a_joins : PySem.W.nsIn K mainGlobals "joins" = some (some (.ref f_joins)))
    (l_joins : K.lookup f_joins = some ⟨oc_joins, od_joins, .func (PySem.W.fnOf "joins" "joins" (defArgs s_joins) (defBody s_joins) (defScope s_joins) .none kV_joins doc_joins pm_joins an_joins cd_joins ct_joins), sl_joins⟩)
    (c_joins : PySem.W.codeIn K cd_joins "joins" = true)
    (k_joins : PySem.W.keepIn K (.ref f_joins) = true)
    (a_are_names : PySem.W.nsIn K mainGlobals "are_names" = some (some (.ref f_are_names)))
    (l_are_names : K.lookup f_are_names = some ⟨oc_are_names, od_are_names, .func (PySem.W.fnOf "are_names" "are_names" (defArgs s_are_names) (defBody s_are_names) (defScope s_are_names) .none kV_are_names doc_are_names pm_are_names an_are_names cd_are_names ct_are_names), sl_are_names⟩)
    (c_are_names : PySem.W.codeIn K cd_are_names "are_names" = true)
    (k_are_names : PySem.W.keepIn K (.ref f_are_names) = true)
    (a_shows_apart : PySem.W.nsIn K mainGlobals "shows_apart" = some (some (.ref f_shows_apart)))
    (l_shows_apart : K.lookup f_shows_apart = some ⟨oc_shows_apart, od_shows_apart, .func (PySem.W.fnOf "shows_apart" "shows_apart" (defArgs s_shows_apart) (defBody s_shows_apart) (defScope s_shows_apart) .none kV_shows_apart doc_shows_apart pm_shows_apart an_shows_apart cd_shows_apart ct_shows_apart), sl_shows_apart⟩)
    (c_shows_apart : PySem.W.codeIn K cd_shows_apart "shows_apart" = true)
    (k_shows_apart : PySem.W.keepIn K (.ref f_shows_apart) = true)
    (a__law_pen : PySem.W.nsIn K mainGlobals "_law_pen" = some (some (.ref f__law_pen)))
    (l__law_pen : K.lookup f__law_pen = some ⟨oc__law_pen, od__law_pen, .func (PySem.W.fnOf "_law_pen" "_law_pen" (defArgs s__law_pen) (defBody s__law_pen) (defScope s__law_pen) .none kV__law_pen doc__law_pen pm__law_pen an__law_pen cd__law_pen ct__law_pen), sl__law_pen⟩)
    (c__law_pen : PySem.W.codeIn K cd__law_pen "_law_pen" = true)
    (k__law_pen : PySem.W.keepIn K (.ref f__law_pen) = true)
    (a__law_draw : PySem.W.nsIn K mainGlobals "_law_draw" = some (some (.ref f__law_draw)))
    (l__law_draw : K.lookup f__law_draw = some ⟨oc__law_draw, od__law_draw, .func (PySem.W.fnOf "_law_draw" "_law_draw" (defArgs s__law_draw) (defBody s__law_draw) (defScope s__law_draw) .none kV__law_draw doc__law_draw pm__law_draw an__law_draw cd__law_draw ct__law_draw), sl__law_draw⟩)
    (c__law_draw : PySem.W.codeIn K cd__law_draw "_law_draw" = true)
    (k__law_draw : PySem.W.keepIn K (.ref f__law_draw) = true)
    (a__law_pick : PySem.W.nsIn K mainGlobals "_law_pick" = some (some (.ref f__law_pick)))
    (l__law_pick : K.lookup f__law_pick = some ⟨oc__law_pick, od__law_pick, .func (PySem.W.fnOf "_law_pick" "_law_pick" (defArgs s__law_pick) (defBody s__law_pick) (defScope s__law_pick) .none kV__law_pick doc__law_pick pm__law_pick an__law_pick cd__law_pick ct__law_pick), sl__law_pick⟩)
    (c__law_pick : PySem.W.codeIn K cd__law_pick "_law_pick" = true)
    (k__law_pick : PySem.W.keepIn K (.ref f__law_pick) = true)
    (a__law_mixed : PySem.W.nsIn K mainGlobals "_law_mixed" = some (some (.ref f__law_mixed)))
    (l__law_mixed : K.lookup f__law_mixed = some ⟨oc__law_mixed, od__law_mixed, .func (PySem.W.fnOf "_law_mixed" "_law_mixed" (defArgs s__law_mixed) (defBody s__law_mixed) (defScope s__law_mixed) .none kV__law_mixed doc__law_mixed pm__law_mixed an__law_mixed cd__law_mixed ct__law_mixed), sl__law_mixed⟩)
    (c__law_mixed : PySem.W.codeIn K cd__law_mixed "_law_mixed" = true)
    (k__law_mixed : PySem.W.keepIn K (.ref f__law_mixed) = true)
    (a__law_tied : PySem.W.nsIn K mainGlobals "_law_tied" = some (some (.ref f__law_tied)))
    (l__law_tied : K.lookup f__law_tied = some ⟨oc__law_tied, od__law_tied, .func (PySem.W.fnOf "_law_tied" "_law_tied" (defArgs s__law_tied) (defBody s__law_tied) (defScope s__law_tied) .none kV__law_tied doc__law_tied pm__law_tied an__law_tied cd__law_tied ct__law_tied), sl__law_tied⟩)
    (c__law_tied : PySem.W.codeIn K cd__law_tied "_law_tied" = true)
    (k__law_tied : PySem.W.keepIn K (.ref f__law_tied) = true)
    (a__law_laid : PySem.W.nsIn K mainGlobals "_law_laid" = some (some (.ref f__law_laid)))
    (l__law_laid : K.lookup f__law_laid = some ⟨oc__law_laid, od__law_laid, .func (PySem.W.fnOf "_law_laid" "_law_laid" (defArgs s__law_laid) (defBody s__law_laid) (defScope s__law_laid) .none kV__law_laid doc__law_laid pm__law_laid an__law_laid cd__law_laid ct__law_laid), sl__law_laid⟩)
    (c__law_laid : PySem.W.codeIn K cd__law_laid "_law_laid" = true)
    (k__law_laid : PySem.W.keepIn K (.ref f__law_laid) = true)
    (a__law_net : PySem.W.nsIn K mainGlobals "_law_net" = some (some (.ref f__law_net)))
    (l__law_net : K.lookup f__law_net = some ⟨oc__law_net, od__law_net, .func (PySem.W.fnOf "_law_net" "_law_net" (defArgs s__law_net) (defBody s__law_net) (defScope s__law_net) .none kV__law_net doc__law_net pm__law_net an__law_net cd__law_net ct__law_net), sl__law_net⟩)
    (c__law_net : PySem.W.codeIn K cd__law_net "_law_net" = true)
    (k__law_net : PySem.W.keepIn K (.ref f__law_net) = true)
    (a__law_links : PySem.W.nsIn K mainGlobals "_law_links" = some (some (.ref f__law_links)))
    (l__law_links : K.lookup f__law_links = some ⟨oc__law_links, od__law_links, .func (PySem.W.fnOf "_law_links" "_law_links" (defArgs s__law_links) (defBody s__law_links) (defScope s__law_links) .none kV__law_links doc__law_links pm__law_links an__law_links cd__law_links ct__law_links), sl__law_links⟩)
    (c__law_links : PySem.W.codeIn K cd__law_links "_law_links" = true)
    (k__law_links : PySem.W.keepIn K (.ref f__law_links) = true)
    (a__law_joined : PySem.W.nsIn K mainGlobals "_law_joined" = some (some (.ref f__law_joined)))
    (l__law_joined : K.lookup f__law_joined = some ⟨oc__law_joined, od__law_joined, .func (PySem.W.fnOf "_law_joined" "_law_joined" (defArgs s__law_joined) (defBody s__law_joined) (defScope s__law_joined) .none kV__law_joined doc__law_joined pm__law_joined an__law_joined cd__law_joined ct__law_joined), sl__law_joined⟩)
    (c__law_joined : PySem.W.codeIn K cd__law_joined "_law_joined" = true)
    (k__law_joined : PySem.W.keepIn K (.ref f__law_joined) = true)
    (a__law_choices : PySem.W.nsIn K mainGlobals "_law_choices" = some (some (.ref f__law_choices)))
    (l__law_choices : K.lookup f__law_choices = some ⟨oc__law_choices, od__law_choices, .func (PySem.W.fnOf "_law_choices" "_law_choices" (defArgs s__law_choices) (defBody s__law_choices) (defScope s__law_choices) .none kV__law_choices doc__law_choices pm__law_choices an__law_choices cd__law_choices ct__law_choices), sl__law_choices⟩)
    (c__law_choices : PySem.W.codeIn K cd__law_choices "_law_choices" = true)
    (k__law_choices : PySem.W.keepIn K (.ref f__law_choices) = true)
    (a__law_names : PySem.W.nsIn K mainGlobals "_law_names" = some (some (.ref f__law_names)))
    (l__law_names : K.lookup f__law_names = some ⟨oc__law_names, od__law_names, .func (PySem.W.fnOf "_law_names" "_law_names" (defArgs s__law_names) (defBody s__law_names) (defScope s__law_names) .none kV__law_names doc__law_names pm__law_names an__law_names cd__law_names ct__law_names), sl__law_names⟩)
    (c__law_names : PySem.W.codeIn K cd__law_names "_law_names" = true)
    (k__law_names : PySem.W.keepIn K (.ref f__law_names) = true)
    (a__law_least_ways : PySem.W.nsIn K mainGlobals "_law_least_ways" = some (some (.ref f__law_least_ways)))
    (l__law_least_ways : K.lookup f__law_least_ways = some ⟨oc__law_least_ways, od__law_least_ways, .func (PySem.W.fnOf "_law_least_ways" "_law_least_ways" (defArgs s__law_least_ways) (defBody s__law_least_ways) (defScope s__law_least_ways) .none kV__law_least_ways doc__law_least_ways pm__law_least_ways an__law_least_ways cd__law_least_ways ct__law_least_ways), sl__law_least_ways⟩)
    (c__law_least_ways : PySem.W.codeIn K cd__law_least_ways "_law_least_ways" = true)
    (k__law_least_ways : PySem.W.keepIn K (.ref f__law_least_ways) = true)
    (a__law_bent : PySem.W.nsIn K mainGlobals "_law_bent" = some (some (.ref f__law_bent)))
    (l__law_bent : K.lookup f__law_bent = some ⟨oc__law_bent, od__law_bent, .func (PySem.W.fnOf "_law_bent" "_law_bent" (defArgs s__law_bent) (defBody s__law_bent) (defScope s__law_bent) .none kV__law_bent doc__law_bent pm__law_bent an__law_bent cd__law_bent ct__law_bent), sl__law_bent⟩)
    (c__law_bent : PySem.W.codeIn K cd__law_bent "_law_bent" = true)
    (k__law_bent : PySem.W.keepIn K (.ref f__law_bent) = true)
    (a__law_pair : PySem.W.nsIn K mainGlobals "_law_pair" = some (some (.ref f__law_pair)))
    (l__law_pair : K.lookup f__law_pair = some ⟨oc__law_pair, od__law_pair, .func (PySem.W.fnOf "_law_pair" "_law_pair" (defArgs s__law_pair) (defBody s__law_pair) (defScope s__law_pair) .none kV__law_pair doc__law_pair pm__law_pair an__law_pair cd__law_pair ct__law_pair), sl__law_pair⟩)
    (c__law_pair : PySem.W.codeIn K cd__law_pair "_law_pair" = true)
    (k__law_pair : PySem.W.keepIn K (.ref f__law_pair) = true)
    (a__law_is_word : PySem.W.nsIn K mainGlobals "_law_is_word" = some (some (.ref f__law_is_word)))
    (l__law_is_word : K.lookup f__law_is_word = some ⟨oc__law_is_word, od__law_is_word, .func (PySem.W.fnOf "_law_is_word" "_law_is_word" (defArgs s__law_is_word) (defBody s__law_is_word) (defScope s__law_is_word) .none kV__law_is_word doc__law_is_word pm__law_is_word an__law_is_word cd__law_is_word ct__law_is_word), sl__law_is_word⟩)
    (c__law_is_word : PySem.W.codeIn K cd__law_is_word "_law_is_word" = true)
    (k__law_is_word : PySem.W.keepIn K (.ref f__law_is_word) = true)
    (a__law_are_words : PySem.W.nsIn K mainGlobals "_law_are_words" = some (some (.ref f__law_are_words)))
    (l__law_are_words : K.lookup f__law_are_words = some ⟨oc__law_are_words, od__law_are_words, .func (PySem.W.fnOf "_law_are_words" "_law_are_words" (defArgs s__law_are_words) (defBody s__law_are_words) (defScope s__law_are_words) .none kV__law_are_words doc__law_are_words pm__law_are_words an__law_are_words cd__law_are_words ct__law_are_words), sl__law_are_words⟩)
    (c__law_are_words : PySem.W.codeIn K cd__law_are_words "_law_are_words" = true)
    (k__law_are_words : PySem.W.keepIn K (.ref f__law_are_words) = true)
    (a__law_due : PySem.W.nsIn K mainGlobals "_law_due" = some (some (.ref f__law_due)))
    (l__law_due : K.lookup f__law_due = some ⟨oc__law_due, od__law_due, .func (PySem.W.fnOf "_law_due" "_law_due" (defArgs s__law_due) (defBody s__law_due) (defScope s__law_due) .none kV__law_due doc__law_due pm__law_due an__law_due cd__law_due ct__law_due), sl__law_due⟩)
    (c__law_due : PySem.W.codeIn K cd__law_due "_law_due" = true)
    (k__law_due : PySem.W.keepIn K (.ref f__law_due) = true)
    (a__law_spoilt : PySem.W.nsIn K mainGlobals "_law_spoilt" = some (some (.ref f__law_spoilt)))
    (l__law_spoilt : K.lookup f__law_spoilt = some ⟨oc__law_spoilt, od__law_spoilt, .func (PySem.W.fnOf "_law_spoilt" "_law_spoilt" (defArgs s__law_spoilt) (defBody s__law_spoilt) (defScope s__law_spoilt) .none kV__law_spoilt doc__law_spoilt pm__law_spoilt an__law_spoilt cd__law_spoilt ct__law_spoilt), sl__law_spoilt⟩)
    (c__law_spoilt : PySem.W.codeIn K cd__law_spoilt "_law_spoilt" = true)
    (k__law_spoilt : PySem.W.keepIn K (.ref f__law_spoilt) = true)
    (a__law_web : PySem.W.nsIn K mainGlobals "_law_web" = some (some (.ref f__law_web)))
    (l__law_web : K.lookup f__law_web = some ⟨oc__law_web, od__law_web, .func (PySem.W.fnOf "_law_web" "_law_web" (defArgs s__law_web) (defBody s__law_web) (defScope s__law_web) .none kV__law_web doc__law_web pm__law_web an__law_web cd__law_web ct__law_web), sl__law_web⟩)
    (c__law_web : PySem.W.codeIn K cd__law_web "_law_web" = true)
    (k__law_web : PySem.W.keepIn K (.ref f__law_web) = true)
    (a__law_right : PySem.W.nsIn K mainGlobals "_law_right" = some (some (.ref f__law_right)))
    (l__law_right : K.lookup f__law_right = some ⟨oc__law_right, od__law_right, .func (PySem.W.fnOf "_law_right" "_law_right" (defArgs s__law_right) (defBody s__law_right) (defScope s__law_right) .none kV__law_right doc__law_right pm__law_right an__law_right cd__law_right ct__law_right), sl__law_right⟩)
    (c__law_right : PySem.W.codeIn K cd__law_right "_law_right" = true)
    (k__law_right : PySem.W.keepIn K (.ref f__law_right) = true)
    (a__law_good : PySem.W.nsIn K mainGlobals "_law_good" = some (some (.ref f__law_good)))
    (l__law_good : K.lookup f__law_good = some ⟨oc__law_good, od__law_good, .func (PySem.W.fnOf "_law_good" "_law_good" (defArgs s__law_good) (defBody s__law_good) (defScope s__law_good) .none kV__law_good doc__law_good pm__law_good an__law_good cd__law_good ct__law_good), sl__law_good⟩)
    (c__law_good : PySem.W.codeIn K cd__law_good "_law_good" = true)
    (k__law_good : PySem.W.keepIn K (.ref f__law_good) = true)
    (a_law : PySem.W.nsIn K mainGlobals "law" = some (some (.ref f_law)))
    (l_law : K.lookup f_law = some ⟨oc_law, od_law, .func (PySem.W.fnOf "law" "law" (defArgs s_law) (defBody s_law) (defScope s_law) .none kV_law doc_law pm_law an_law cd_law ct_law), sl_law⟩)
    (c_law : PySem.W.codeIn K cd_law "law" = true)
    (k_law : PySem.W.keepIn K (.ref f_law) = true)
    (z_int : PySem.W.nsIn K mainGlobals "int" = some none)
    (z_bool : PySem.W.nsIn K mainGlobals "bool" = some none)
    (z_isinstance : PySem.W.nsIn K mainGlobals "isinstance" = some none)
    (z_list : PySem.W.nsIn K mainGlobals "list" = some none)
    (z_tuple : PySem.W.nsIn K mainGlobals "tuple" = some none)
    (z_len : PySem.W.nsIn K mainGlobals "len" = some none)
    (z_abs : PySem.W.nsIn K mainGlobals "abs" = some none)
    (z_repr : PySem.W.nsIn K mainGlobals "repr" = some none)
    (z_range : PySem.W.nsIn K mainGlobals "range" = some none)
    (z_str : PySem.W.nsIn K mainGlobals "str" = some none)
    (z_sorted : PySem.W.nsIn K mainGlobals "sorted" = some none)
    (z_set : PySem.W.nsIn K mainGlobals "set" = some none)
    (z_dict : PySem.W.nsIn K mainGlobals "dict" = some none)
    (z_enumerate : PySem.W.nsIn K mainGlobals "enumerate" = some none)
    (z_all : PySem.W.nsIn K mainGlobals "all" = some none)
    (z_any : PySem.W.nsIn K mainGlobals "any" = some none)
    (z_min : PySem.W.nsIn K mainGlobals "min" = some none)
    (z_max : PySem.W.nsIn K mainGlobals "max" = some none)
    (z_ValueError : PySem.W.nsIn K mainGlobals "ValueError" = some none) :
    ∃ T : TX K mg, T.f_law = fa := by
  have e := hfa.symm.trans (PySem.W.mg_of X G a_law)
  have e2 : f_law = fa := by cases e; rfl
  subst e2
  exact ⟨{
      b_int := PySem.W.mg_none_of X G z_int
      b_bool := PySem.W.mg_none_of X G z_bool
      b_isinstance := PySem.W.mg_none_of X G z_isinstance
      b_list := PySem.W.mg_none_of X G z_list
      b_tuple := PySem.W.mg_none_of X G z_tuple
      b_len := PySem.W.mg_none_of X G z_len
      b_abs := PySem.W.mg_none_of X G z_abs
      b_repr := PySem.W.mg_none_of X G z_repr
      b_range := PySem.W.mg_none_of X G z_range
      b_str := PySem.W.mg_none_of X G z_str
      b_sorted := PySem.W.mg_none_of X G z_sorted
      b_set := PySem.W.mg_none_of X G z_set
      b_dict := PySem.W.mg_none_of X G z_dict
      b_enumerate := PySem.W.mg_none_of X G z_enumerate
      b_all := PySem.W.mg_none_of X G z_all
      b_any := PySem.W.mg_none_of X G z_any
      b_min := PySem.W.mg_none_of X G z_min
      b_max := PySem.W.mg_none_of X G z_max
      b_ValueError := PySem.W.mg_none_of X G z_ValueError
      f_is_int := f_is_int
      d_is_int := _
      F_is_int := fun_mk (st := s_is_int) l_is_int c_is_int k_is_int
      m_is_int := PySem.W.mg_of X G a_is_int
      f_is_name := f_is_name
      d_is_name := _
      F_is_name := fun_mk (st := s_is_name) l_is_name c_is_name k_is_name
      m_is_name := PySem.W.mg_of X G a_is_name
      f_ordered_links := f_ordered_links
      d_ordered_links := _
      F_ordered_links := fun_mk (st := s_ordered_links) l_ordered_links c_ordered_links k_ordered_links
      m_ordered_links := PySem.W.mg_of X G a_ordered_links
      f_joints_of := f_joints_of
      d_joints_of := _
      F_joints_of := fun_mk (st := s_joints_of) l_joints_of c_joints_of k_joints_of
      m_joints_of := PySem.W.mg_of X G a_joints_of
      f_net_shape := f_net_shape
      d_net_shape := _
      F_net_shape := fun_mk (st := s_net_shape) l_net_shape c_net_shape k_net_shape
      m_net_shape := PySem.W.mg_of X G a_net_shape
      f_compound := f_compound
      d_compound := _
      F_compound := fun_mk (st := s_compound) l_compound c_compound k_compound
      m_compound := PySem.W.mg_of X G a_compound
      f_moved_links := f_moved_links
      d_moved_links := _
      F_moved_links := fun_mk (st := s_moved_links) l_moved_links c_moved_links k_moved_links
      m_moved_links := PySem.W.mg_of X G a_moved_links
      f_laid_net := f_laid_net
      d_laid_net := _
      F_laid_net := fun_mk (st := s_laid_net) l_laid_net c_laid_net k_laid_net
      m_laid_net := PySem.W.mg_of X G a_laid_net
      f_laid := f_laid
      d_laid := _
      F_laid := fun_mk (st := s_laid) l_laid c_laid k_laid
      m_laid := PySem.W.mg_of X G a_laid
      f_laid_row := f_laid_row
      d_laid_row := _
      F_laid_row := fun_mk (st := s_laid_row) l_laid_row c_laid_row k_laid_row
      m_laid_row := PySem.W.mg_of X G a_laid_row
      f_links_of := f_links_of
      d_links_of := _
      F_links_of := fun_mk (st := s_links_of) l_links_of c_links_of k_links_of
      m_links_of := PySem.W.mg_of X G a_links_of
      f_is_netless := f_is_netless
      d_is_netless := _
      F_is_netless := fun_mk (st := s_is_netless) l_is_netless c_is_netless k_is_netless
      m_is_netless := PySem.W.mg_of X G a_is_netless
      f_text_of := f_text_of
      d_text_of := _
      F_text_of := fun_mk (st := s_text_of) l_text_of c_text_of k_text_of
      m_text_of := PySem.W.mg_of X G a_text_of
      f_is_link := f_is_link
      d_is_link := _
      F_is_link := fun_mk (st := s_is_link) l_is_link c_is_link k_is_link
      m_is_link := PySem.W.mg_of X G a_is_link
      f_shape_of := f_shape_of
      d_shape_of := _
      F_shape_of := fun_mk (st := s_shape_of) l_shape_of c_shape_of k_shape_of
      m_shape_of := PySem.W.mg_of X G a_shape_of
      f_web_of := f_web_of
      d_web_of := _
      F_web_of := fun_mk (st := s_web_of) l_web_of c_web_of k_web_of
      m_web_of := PySem.W.mg_of X G a_web_of
      f_reached := f_reached
      d_reached := _
      F_reached := fun_mk (st := s_reached) l_reached c_reached k_reached
      m_reached := PySem.W.mg_of X G a_reached
      f_joins := f_joins
      d_joins := _
      F_joins := fun_mk (st := s_joins) l_joins c_joins k_joins
      m_joins := PySem.W.mg_of X G a_joins
      f_are_names := f_are_names
      d_are_names := _
      F_are_names := fun_mk (st := s_are_names) l_are_names c_are_names k_are_names
      m_are_names := PySem.W.mg_of X G a_are_names
      f_shows_apart := f_shows_apart
      d_shows_apart := _
      F_shows_apart := fun_mk (st := s_shows_apart) l_shows_apart c_shows_apart k_shows_apart
      m_shows_apart := PySem.W.mg_of X G a_shows_apart
      f__law_pen := f__law_pen
      d__law_pen := _
      F__law_pen := fun_mk (st := s__law_pen) l__law_pen c__law_pen k__law_pen
      m__law_pen := PySem.W.mg_of X G a__law_pen
      f__law_draw := f__law_draw
      d__law_draw := _
      F__law_draw := fun_mk (st := s__law_draw) l__law_draw c__law_draw k__law_draw
      m__law_draw := PySem.W.mg_of X G a__law_draw
      f__law_pick := f__law_pick
      d__law_pick := _
      F__law_pick := fun_mk (st := s__law_pick) l__law_pick c__law_pick k__law_pick
      m__law_pick := PySem.W.mg_of X G a__law_pick
      f__law_mixed := f__law_mixed
      d__law_mixed := _
      F__law_mixed := fun_mk (st := s__law_mixed) l__law_mixed c__law_mixed k__law_mixed
      m__law_mixed := PySem.W.mg_of X G a__law_mixed
      f__law_tied := f__law_tied
      d__law_tied := _
      F__law_tied := fun_mk (st := s__law_tied) l__law_tied c__law_tied k__law_tied
      m__law_tied := PySem.W.mg_of X G a__law_tied
      f__law_laid := f__law_laid
      d__law_laid := _
      F__law_laid := fun_mk (st := s__law_laid) l__law_laid c__law_laid k__law_laid
      m__law_laid := PySem.W.mg_of X G a__law_laid
      f__law_net := f__law_net
      d__law_net := _
      F__law_net := fun_mk (st := s__law_net) l__law_net c__law_net k__law_net
      m__law_net := PySem.W.mg_of X G a__law_net
      f__law_links := f__law_links
      d__law_links := _
      F__law_links := fun_mk (st := s__law_links) l__law_links c__law_links k__law_links
      m__law_links := PySem.W.mg_of X G a__law_links
      f__law_joined := f__law_joined
      d__law_joined := _
      F__law_joined := fun_mk (st := s__law_joined) l__law_joined c__law_joined k__law_joined
      m__law_joined := PySem.W.mg_of X G a__law_joined
      f__law_choices := f__law_choices
      d__law_choices := _
      F__law_choices := fun_mk (st := s__law_choices) l__law_choices c__law_choices k__law_choices
      m__law_choices := PySem.W.mg_of X G a__law_choices
      f__law_names := f__law_names
      d__law_names := _
      F__law_names := fun_mk (st := s__law_names) l__law_names c__law_names k__law_names
      m__law_names := PySem.W.mg_of X G a__law_names
      f__law_least_ways := f__law_least_ways
      d__law_least_ways := _
      F__law_least_ways := fun_mk (st := s__law_least_ways) l__law_least_ways c__law_least_ways k__law_least_ways
      m__law_least_ways := PySem.W.mg_of X G a__law_least_ways
      f__law_bent := f__law_bent
      d__law_bent := _
      F__law_bent := fun_mk (st := s__law_bent) l__law_bent c__law_bent k__law_bent
      m__law_bent := PySem.W.mg_of X G a__law_bent
      f__law_pair := f__law_pair
      d__law_pair := _
      F__law_pair := fun_mk (st := s__law_pair) l__law_pair c__law_pair k__law_pair
      m__law_pair := PySem.W.mg_of X G a__law_pair
      f__law_is_word := f__law_is_word
      d__law_is_word := _
      F__law_is_word := fun_mk (st := s__law_is_word) l__law_is_word c__law_is_word k__law_is_word
      m__law_is_word := PySem.W.mg_of X G a__law_is_word
      f__law_are_words := f__law_are_words
      d__law_are_words := _
      F__law_are_words := fun_mk (st := s__law_are_words) l__law_are_words c__law_are_words k__law_are_words
      m__law_are_words := PySem.W.mg_of X G a__law_are_words
      f__law_due := f__law_due
      d__law_due := _
      F__law_due := fun_mk (st := s__law_due) l__law_due c__law_due k__law_due
      m__law_due := PySem.W.mg_of X G a__law_due
      f__law_spoilt := f__law_spoilt
      d__law_spoilt := _
      F__law_spoilt := fun_mk (st := s__law_spoilt) l__law_spoilt c__law_spoilt k__law_spoilt
      m__law_spoilt := PySem.W.mg_of X G a__law_spoilt
      f__law_web := f__law_web
      d__law_web := _
      F__law_web := fun_mk (st := s__law_web) l__law_web c__law_web k__law_web
      m__law_web := PySem.W.mg_of X G a__law_web
      f__law_right := f__law_right
      d__law_right := _
      F__law_right := fun_mk (st := s__law_right) l__law_right c__law_right k__law_right
      m__law_right := PySem.W.mg_of X G a__law_right
      f__law_good := f__law_good
      d__law_good := _
      F__law_good := fun_mk (st := s__law_good) l__law_good c__law_good k__law_good
      m__law_good := PySem.W.mg_of X G a__law_good
      f_law := f_law
      d_law := _
      F_law := fun_mk (st := s_law) l_law c_law k_law
      m_law := PySem.W.mg_of X G a_law
      C_Web := C_Web
      m_Web := PySem.W.mg_of X G aC_Web
      f_Web___init__ := f_Web___init__
      d_Web___init__ := _
      F_Web___init__ := fun_mk (st := s_Web___init__) l_Web___init__ c_Web___init__ k_Web___init__
      f_Web_link := f_Web_link
      d_Web_link := _
      F_Web_link := fun_mk (st := s_Web_link) l_Web_link c_Web_link k_Web_link
      f_Web_net := f_Web_net
      d_Web_net := _
      F_Web_net := fun_mk (st := s_Web_net) l_Web_net c_Web_net k_Web_net
      f_Web_row := f_Web_row
      d_Web_row := _
      F_Web_row := fun_mk (st := s_Web_row) l_Web_row c_Web_row k_Web_row
      f_Web_bunch := f_Web_bunch
      d_Web_bunch := _
      F_Web_bunch := fun_mk (st := s_Web_bunch) l_Web_bunch c_Web_bunch k_Web_bunch
      f_Web_always := f_Web_always
      d_Web_always := _
      F_Web_always := fun_mk (st := s_Web_always) l_Web_always c_Web_always k_Web_always
      f_Web_never := f_Web_never
      d_Web_never := _
      F_Web_never := fun_mk (st := s_Web_never) l_Web_never c_Web_never k_Web_never
      f_Web_kind := f_Web_kind
      d_Web_kind := _
      F_Web_kind := fun_mk (st := s_Web_kind) l_Web_kind c_Web_kind k_Web_kind
      f_Web_links := f_Web_links
      d_Web_links := _
      F_Web_links := fun_mk (st := s_Web_links) l_Web_links c_Web_links k_Web_links
      f_Web_names := f_Web_names
      d_Web_names := _
      F_Web_names := fun_mk (st := s_Web_names) l_Web_names c_Web_names k_Web_names
      f_Web___and__ := f_Web___and__
      d_Web___and__ := _
      F_Web___and__ := fun_mk (st := s_Web___and__) l_Web___and__ c_Web___and__ k_Web___and__
      f_Web___or__ := f_Web___or__
      d_Web___or__ := _
      F_Web___or__ := fun_mk (st := s_Web___or__) l_Web___or__ c_Web___or__ k_Web___or__
      C_BadWeb := C_BadWeb
      m_BadWeb := PySem.W.mg_of X G aC_BadWeb
      C_TooMany := C_TooMany
      m_TooMany := PySem.W.mg_of X G aC_TooMany
      C_WebError := C_WebError
      m_WebError := PySem.W.mg_of X G aC_WebError
      vc := ⟨pgW, hdW, poW, saW⟩
      nShape := nSh
      nLaid := nLa
      mk_Web := ⟨mkW1, iW, jW, mkW2⟩
      mc_Web := mc_Web
      caW := caW
      cnW := cn
      ctW := ct
      cmW := cmW
      nf := nfW
      kWS := kWSt
      rdW := ⟨srdW, sgaW⟩
      MOST_t := MOST_t
      mostW := ⟨atM, ⟨_, rfl⟩⟩
      p_kind := p_kind
      pr_kind := ⟨vi_kind, vg_kind, vt_kind, _, vr_kind⟩
      p_links := p_links
      pr_links := ⟨vi_links, vg_links, vt_links, _, vr_links⟩
      p_names := p_names
      pr_names := ⟨vi_names, vg_names, vt_names, _, vr_names⟩
      p_link := p_link
      st_link := ⟨styW, srdW, sgaW, sat_link, ⟨_, src_link⟩, skp_link⟩
      p_net := p_net
      st_net := ⟨styW, srdW, sgaW, sat_net, ⟨_, src_net⟩, skp_net⟩
      p_row := p_row
      st_row := ⟨styW, srdW, sgaW, sat_row, ⟨_, src_row⟩, skp_row⟩
      p_bunch := p_bunch
      st_bunch := ⟨styW, srdW, sgaW, sat_bunch, ⟨_, src_bunch⟩, skp_bunch⟩
      p_always := p_always
      st_always := ⟨styW, srdW, sgaW, sat_always, ⟨_, src_always⟩, skp_always⟩
      p_never := p_never
      st_never := ⟨styW, srdW, sgaW, sat_never, ⟨_, src_never⟩, skp_never⟩
      sfW := sfW_
      andW := ⟨sfW_, i_andW, j_andW⟩
      orW := ⟨sfW_, i_orW, j_orW⟩
      LONG_t := LONG_t
      m_LONGEST := PySem.W.mg_of X G aLG
      a_RESERVED := a_RESERVED
      m_RESERVED := PySem.W.mg_of X G aG_RESERVED
      resT := fun H => .inr ⟨_, _, _, lG_RESERVED, rfl, rfl, (by show 3 ≤ sizeLine; decide), (.cons ⟨u_RESERVED0, by rw [eG_RESERVED0]⟩ (.cons ⟨u_RESERVED1, by rw [eG_RESERVED1]⟩ (.cons ⟨u_RESERVED2, by rw [eG_RESERVED2]⟩ .nil)))⟩
      a_SHUT := a_SHUT
      m_SHUT := PySem.W.mg_of X G aG_SHUT
      shT := fun H => .inr ⟨_, _, _, lG_SHUT, rfl, rfl, (by show 1 ≤ sizeLine; decide), (.cons ⟨u_SHUT0, by rw [eG_SHUT0]⟩ .nil)⟩
      a_OPEN := a_OPEN
      m_OPEN := PySem.W.mg_of X G aG_OPEN
      opT := fun H => .inr ⟨_, _, _, lG_OPEN, rfl, rfl, (by show 1 ≤ sizeLine; decide), (.cons ⟨u_OPEN0, by rw [eG_OPEN0]⟩ .nil)⟩ }, rfl⟩
end RR
section
open PySem PySem.W PyProof.Rows
local macro_rules | `(tactic| o_head $H:term) => `(tactic| refine RR.head_kk (r := OpenLaw.row PySem.Challenge.rw_sixasone_k52_ways_and_cuts_looked_at) (q := (view (OpenLaw.row PySem.Challenge.rw_sixasone_k52_ways_and_cuts_looked_at).prog [0, 80])) (H := $H) (M := 14000) (loose := ((["__name__", "WebError", "BadName", "BadWeb", "NoName", "NotTied", "TooMany", "BadText", "FIGURES", "LETTERS", "LONGEST", "RESERVED", "is_int", "is_name", "steps_from", "walks_of", "reached", "count_of", "in_order", "joins", "is_never_worse", "are_names", "shows_apart", "OPEN", "SHUT", "ordered_links", "joints_of", "net_shape", "compound", "laid"] : List PySem.Str) ++ (["laid_row", "laid_net", "moved_links", "links_of", "is_netless", "dual", "flipped", "put_in", "put_in_net", "merged_links", "made_sure", "text_of", "MOST_NAMES", "Reader", "WebReader", "read_shape", "is_link", "shape_of", "web_of", "Web", "_law_pen", "_law_draw", "_law_pick", "_law_mixed", "_law_tied", "_law_laid", "_law_net", "_law_links", "_law_joined", "_law_choices"] : List PySem.Str) ++ (["_law_names", "_law_least_ways", "_law_bent", "_law_pair", "_law_is_word", "_law_are_words", "_law_due", "_law_spoilt", "_law_web", "_law_right", "_law_good"] : List PySem.Str))) (d := HandSHeadRun.topDef (OpenLaw.row PySem.Challenge.rw_sixasone_k52_ways_and_cuts_looked_at).prog 80) (kwd := []) rfl (fun w => by unfold HandSHeadRun.RunEqI; kernel_rfl)
    (by kernel_rfl) (by kernel_rfl) (by kernel_rfl) (by rfl) (by first | assumption | decide +kernel) (by decide +kernel) ⟨rfl, rfl, rfl, rfl, rfl, by decide +kernel⟩ ?hw ?hc)
open PySem.Spec in
set_option maxRecDepth 100000 in
set_option maxHeartbeats 0 in
theorem RR.head_of (W : ∀ {qq : Program} {loose : List Str} {XP : (Str → Option Value) → Heap → Prop} {YP : World → Heap → Prop} {d : DefRec} {K : Params → PySem.W.Frag} (_ : d.params.defaults = []) (_ : ∀ (w : World) (h : Heap), YP w h → (K w.params).In h)
    (_ : ∀ (w : World) (mg : Str → Option Value) (fa : Addr) (h : Heap), (K w.params).In h → h.Ns mainGlobals mg → mg d.name = some (.ref fa) → ∃ T : RR.TX (K w.params) mg, T.f_law = fa),
    PySem.W.WalkO qq loose XP YP (PySem.Challenge.rw_sixasone_k52_ways_and_cuts_looked_at).row.toRowW d [] (fun f vs => PySem.call f vs)) : PySem.Challenge.rw_sixasone_k52_ways_and_cuts_looked_at.Holds := by
  w_on; o_law; k_head; (case hw => w_witness2)
  k_fill
  refine W rfl (fun w h Y => PySem.W.kIn_of Y) ?F
  case F =>
    intro w mg fa h KX G hmg
    refine' RR.build KX G hmg ?aC_Web ?aC_BadWeb ?aC_TooMany ?aC_WebError ?cn ?ct ?pgW ?hdW ?poW ?saW ?nSh ?nLa ?iW ?jW ?mkW1 ?mkW2 ?caW ?cmW ?styW ?srdW ?sgaW ?nfW ?kWSt ?atM ?vi_kind ?vg_kind ?vt_kind ?vr_kind ?vi_links ?vg_links ?vt_links ?vr_links ?vi_names ?vg_names ?vt_names ?vr_names ?sat_link ?src_link ?skp_link ?sat_net ?src_net ?skp_net ?sat_row ?src_row ?skp_row ?sat_bunch ?src_bunch ?skp_bunch ?sat_always ?src_always ?skp_always ?sat_never ?src_never ?skp_never ?sfW_ ?i_andW ?j_andW ?i_orW ?j_orW ?aLG ?aG_RESERVED ?lG_RESERVED ?eG_RESERVED0 ?eG_RESERVED1 ?eG_RESERVED2 ?aG_SHUT ?lG_SHUT ?eG_SHUT0 ?aG_OPEN ?lG_OPEN ?eG_OPEN0 ?l_Web___init__ ?c_Web___init__ ?k_Web___init__ ?l_Web_link ?c_Web_link ?k_Web_link ?l_Web_net ?c_Web_net ?k_Web_net ?l_Web_row ?c_Web_row ?k_Web_row ?l_Web_bunch ?c_Web_bunch ?k_Web_bunch ?l_Web_always ?c_Web_always ?k_Web_always ?l_Web_never ?c_Web_never ?k_Web_never ?l_Web_kind ?c_Web_kind ?k_Web_kind ?l_Web_links ?c_Web_links ?k_Web_links ?l_Web_names ?c_Web_names ?k_Web_names ?l_Web___and__ ?c_Web___and__ ?k_Web___and__ ?l_Web___or__ ?c_Web___or__ ?k_Web___or__ ?a_is_int ?l_is_int ?c_is_int ?k_is_int ?a_is_name ?l_is_name ?c_is_name ?k_is_name ?a_ordered_links ?l_ordered_links ?c_ordered_links ?k_ordered_links ?a_joints_of ?l_joints_of ?c_joints_of ?k_joints_of ?a_net_shape ?l_net_shape ?c_net_shape ?k_net_shape ?a_compound ?l_compound ?c_compound ?k_compound ?a_moved_links ?l_moved_links ?c_moved_links ?k_moved_links ?a_laid_net ?l_laid_net ?c_laid_net ?k_laid_net ?a_laid ?l_laid ?c_laid ?k_laid ?a_laid_row ?l_laid_row ?c_laid_row ?k_laid_row ?a_links_of ?l_links_of ?c_links_of ?k_links_of ?a_is_netless ?l_is_netless ?c_is_netless ?k_is_netless ?a_text_of ?l_text_of ?c_text_of ?k_text_of ?a_is_link ?l_is_link ?c_is_link ?k_is_link ?a_shape_of ?l_shape_of ?c_shape_of ?k_shape_of ?a_web_of ?l_web_of ?c_web_of ?k_web_of ?a_reached ?l_reached ?c_reached ?k_reached ?a_joins ?l_joins ?c_joins ?k_joins ?a_are_names ?l_are_names ?c_are_names ?k_are_names ?a_shows_apart ?l_shows_apart ?c_shows_apart ?k_shows_apart ?a__law_pen ?l__law_pen ?c__law_pen ?k__law_pen ?a__law_draw ?l__law_draw ?c__law_draw ?k__law_draw ?a__law_pick ?l__law_pick ?c__law_pick ?k__law_pick ?a__law_mixed ?l__law_mixed ?c__law_mixed ?k__law_mixed ?a__law_tied ?l__law_tied ?c__law_tied ?k__law_tied ?a__law_laid ?l__law_laid ?c__law_laid ?k__law_laid ?a__law_net ?l__law_net ?c__law_net ?k__law_net ?a__law_links ?l__law_links ?c__law_links ?k__law_links ?a__law_joined ?l__law_joined ?c__law_joined ?k__law_joined ?a__law_choices ?l__law_choices ?c__law_choices ?k__law_choices ?a__law_names ?l__law_names ?c__law_names ?k__law_names ?a__law_least_ways ?l__law_least_ways ?c__law_least_ways ?k__law_least_ways ?a__law_bent ?l__law_bent ?c__law_bent ?k__law_bent ?a__law_pair ?l__law_pair ?c__law_pair ?k__law_pair ?a__law_is_word ?l__law_is_word ?c__law_is_word ?k__law_is_word ?a__law_are_words ?l__law_are_words ?c__law_are_words ?k__law_are_words ?a__law_due ?l__law_due ?c__law_due ?k__law_due ?a__law_spoilt ?l__law_spoilt ?c__law_spoilt ?k__law_spoilt ?a__law_web ?l__law_web ?c__law_web ?k__law_web ?a__law_right ?l__law_right ?c__law_right ?k__law_right ?a__law_good ?l__law_good ?c__law_good ?k__law_good ?a_law ?l_law ?c_law ?k_law ?z_int ?z_bool ?z_isinstance ?z_list ?z_tuple ?z_len ?z_abs ?z_repr ?z_range ?z_str ?z_sorted ?z_set ?z_dict ?z_enumerate ?z_all ?z_any ?z_min ?z_max ?z_ValueError
    (case aC_Web => k_is)
    (case aC_BadWeb => k_is)
    (case aC_TooMany => k_is)
    (case aC_WebError => k_is)
    (case cn => k_is)
    (case ct => k_is)
    (case pgW => k_is)
    (case hdW => k_is)
    (case poW => k_is)
    (case saW => k_is)
    (case nSh => k_is)
    (case nLa => k_is)
    (case iW => k_is)
    (case jW => k_is)
    (case mkW1 => k_is)
    (case mkW2 => k_is)
    (case caW => k_is)
    (case cmW => k_is)
    (case styW => k_is)
    (case srdW => k_is)
    (case sgaW => k_is)
    (case nfW => k_is)
    (case kWSt => kit_is)
    (case atM => k_is)
    (case vi_kind => k_is)
    (case vg_kind => k_is)
    (case vt_kind => k_is)
    (case vr_kind => k_is)
    (case vi_links => k_is)
    (case vg_links => k_is)
    (case vt_links => k_is)
    (case vr_links => k_is)
    (case vi_names => k_is)
    (case vg_names => k_is)
    (case vt_names => k_is)
    (case vr_names => k_is)
    (case sat_link => k_is)
    (case src_link => k_is)
    (case skp_link => k_is)
    (case sat_net => k_is)
    (case src_net => k_is)
    (case skp_net => k_is)
    (case sat_row => k_is)
    (case src_row => k_is)
    (case skp_row => k_is)
    (case sat_bunch => k_is)
    (case src_bunch => k_is)
    (case skp_bunch => k_is)
    (case sat_always => k_is)
    (case src_always => k_is)
    (case skp_always => k_is)
    (case sat_never => k_is)
    (case src_never => k_is)
    (case skp_never => k_is)
    (case sfW_ => k_is)
    (case i_andW => k_is)
    (case j_andW => k_is)
    (case i_orW => k_is)
    (case j_orW => k_is)
    (case aLG => k_is)
    (case aG_RESERVED => k_is)
    (case lG_RESERVED => k_is)
    (case eG_RESERVED0 => (first | rfl | decide +kernel))
    (case eG_RESERVED1 => (first | rfl | decide +kernel))
    (case eG_RESERVED2 => (first | rfl | decide +kernel))
    (case aG_SHUT => k_is)
    (case lG_SHUT => k_is)
    (case eG_SHUT0 => (first | rfl | decide +kernel))
    (case aG_OPEN => k_is)
    (case lG_OPEN => k_is)
    (case eG_OPEN0 => (first | rfl | decide +kernel))
    (case l_Web___init__ => k_is)
    (case c_Web___init__ => k_is)
    (case k_Web___init__ => k_is)
    (case l_Web_link => k_is)
    (case c_Web_link => k_is)
    (case k_Web_link => k_is)
    (case l_Web_net => k_is)
    (case c_Web_net => k_is)
    (case k_Web_net => k_is)
    (case l_Web_row => k_is)
    (case c_Web_row => k_is)
    (case k_Web_row => k_is)
    (case l_Web_bunch => k_is)
    (case c_Web_bunch => k_is)
    (case k_Web_bunch => k_is)
    (case l_Web_always => k_is)
    (case c_Web_always => k_is)
    (case k_Web_always => k_is)
    (case l_Web_never => k_is)
    (case c_Web_never => k_is)
    (case k_Web_never => k_is)
    (case l_Web_kind => k_is)
    (case c_Web_kind => k_is)
    (case k_Web_kind => k_is)
    (case l_Web_links => k_is)
    (case c_Web_links => k_is)
    (case k_Web_links => k_is)
    (case l_Web_names => k_is)
    (case c_Web_names => k_is)
    (case k_Web_names => k_is)
    (case l_Web___and__ => k_is)
    (case c_Web___and__ => k_is)
    (case k_Web___and__ => k_is)
    (case l_Web___or__ => k_is)
    (case c_Web___or__ => k_is)
    (case k_Web___or__ => k_is)
    (case a_is_int => k_is)
    (case l_is_int => k_is)
    (case c_is_int => k_is)
    (case k_is_int => k_is)
    (case a_is_name => k_is)
    (case l_is_name => k_is)
    (case c_is_name => k_is)
    (case k_is_name => k_is)
    (case a_ordered_links => k_is)
    (case l_ordered_links => k_is)
    (case c_ordered_links => k_is)
    (case k_ordered_links => k_is)
    (case a_joints_of => k_is)
    (case l_joints_of => k_is)
    (case c_joints_of => k_is)
    (case k_joints_of => k_is)
    (case a_net_shape => k_is)
    (case l_net_shape => k_is)
    (case c_net_shape => k_is)
    (case k_net_shape => k_is)
    (case a_compound => k_is)
    (case l_compound => k_is)
    (case c_compound => k_is)
    (case k_compound => k_is)
    (case a_moved_links => k_is)
    (case l_moved_links => k_is)
    (case c_moved_links => k_is)
    (case k_moved_links => k_is)
    (case a_laid_net => k_is)
    (case l_laid_net => k_is)
    (case c_laid_net => k_is)
    (case k_laid_net => k_is)
    (case a_laid => k_is)
    (case l_laid => k_is)
    (case c_laid => k_is)
    (case k_laid => k_is)
    (case a_laid_row => k_is)
    (case l_laid_row => k_is)
    (case c_laid_row => k_is)
    (case k_laid_row => k_is)
    (case a_links_of => k_is)
    (case l_links_of => k_is)
    (case c_links_of => k_is)
    (case k_links_of => k_is)
    (case a_is_netless => k_is)
    (case l_is_netless => k_is)
    (case c_is_netless => k_is)
    (case k_is_netless => k_is)
    (case a_text_of => k_is)
    (case l_text_of => k_is)
    (case c_text_of => k_is)
    (case k_text_of => k_is)
    (case a_is_link => k_is)
    (case l_is_link => k_is)
    (case c_is_link => k_is)
    (case k_is_link => k_is)
    (case a_shape_of => k_is)
    (case l_shape_of => k_is)
    (case c_shape_of => k_is)
    (case k_shape_of => k_is)
    (case a_web_of => k_is)
    (case l_web_of => k_is)
    (case c_web_of => k_is)
    (case k_web_of => k_is)
    (case a_reached => k_is)
    (case l_reached => k_is)
    (case c_reached => k_is)
    (case k_reached => k_is)
    (case a_joins => k_is)
    (case l_joins => k_is)
    (case c_joins => k_is)
    (case k_joins => k_is)
    (case a_are_names => k_is)
    (case l_are_names => k_is)
    (case c_are_names => k_is)
    (case k_are_names => k_is)
    (case a_shows_apart => k_is)
    (case l_shows_apart => k_is)
    (case c_shows_apart => k_is)
    (case k_shows_apart => k_is)
    (case a__law_pen => k_is)
    (case l__law_pen => k_is)
    (case c__law_pen => k_is)
    (case k__law_pen => k_is)
    (case a__law_draw => k_is)
    (case l__law_draw => k_is)
    (case c__law_draw => k_is)
    (case k__law_draw => k_is)
    (case a__law_pick => k_is)
    (case l__law_pick => k_is)
    (case c__law_pick => k_is)
    (case k__law_pick => k_is)
    (case a__law_mixed => k_is)
    (case l__law_mixed => k_is)
    (case c__law_mixed => k_is)
    (case k__law_mixed => k_is)
    (case a__law_tied => k_is)
    (case l__law_tied => k_is)
    (case c__law_tied => k_is)
    (case k__law_tied => k_is)
    (case a__law_laid => k_is)
    (case l__law_laid => k_is)
    (case c__law_laid => k_is)
    (case k__law_laid => k_is)
    (case a__law_net => k_is)
    (case l__law_net => k_is)
    (case c__law_net => k_is)
    (case k__law_net => k_is)
    (case a__law_links => k_is)
    (case l__law_links => k_is)
    (case c__law_links => k_is)
    (case k__law_links => k_is)
    (case a__law_joined => k_is)
    (case l__law_joined => k_is)
    (case c__law_joined => k_is)
    (case k__law_joined => k_is)
    (case a__law_choices => k_is)
    (case l__law_choices => k_is)
    (case c__law_choices => k_is)
    (case k__law_choices => k_is)
    (case a__law_names => k_is)
    (case l__law_names => k_is)
    (case c__law_names => k_is)
    (case k__law_names => k_is)
    (case a__law_least_ways => k_is)
    (case l__law_least_ways => k_is)
    (case c__law_least_ways => k_is)
    (case k__law_least_ways => k_is)
    (case a__law_bent => k_is)
    (case l__law_bent => k_is)
    (case c__law_bent => k_is)
    (case k__law_bent => k_is)
    (case a__law_pair => k_is)
    (case l__law_pair => k_is)
    (case c__law_pair => k_is)
    (case k__law_pair => k_is)
    (case a__law_is_word => k_is)
    (case l__law_is_word => k_is)
    (case c__law_is_word => k_is)
    (case k__law_is_word => k_is)
    (case a__law_are_words => k_is)
    (case l__law_are_words => k_is)
    (case c__law_are_words => k_is)
    (case k__law_are_words => k_is)
    (case a__law_due => k_is)
    (case l__law_due => k_is)
    (case c__law_due => k_is)
    (case k__law_due => k_is)
    (case a__law_spoilt => k_is)
    (case l__law_spoilt => k_is)
    (case c__law_spoilt => k_is)
    (case k__law_spoilt => k_is)
    (case a__law_web => k_is)
    (case l__law_web => k_is)
    (case c__law_web => k_is)
    (case k__law_web => k_is)
    (case a__law_right => k_is)
    (case l__law_right => k_is)
    (case c__law_right => k_is)
    (case k__law_right => k_is)
    (case a__law_good => k_is)
    (case l__law_good => k_is)
    (case c__law_good => k_is)
    (case k__law_good => k_is)
    (case a_law => k_is)
    (case l_law => k_is)
    (case c_law => k_is)
    (case k_law => k_is)
    (case z_int => k_is)
    (case z_bool => k_is)
    (case z_isinstance => k_is)
    (case z_list => k_is)
    (case z_tuple => k_is)
    (case z_len => k_is)
    (case z_abs => k_is)
    (case z_repr => k_is)
    (case z_range => k_is)
    (case z_str => k_is)
    (case z_sorted => k_is)
    (case z_set => k_is)
    (case z_dict => k_is)
    (case z_enumerate => k_is)
    (case z_all => k_is)
    (case z_any => k_is)
    (case z_min => k_is)
    (case z_max => k_is)
    (case z_ValueError => k_is)
end
set_option maxHeartbeats 4000000
namespace RR
open PySem PySem.Spec PyProof.Rows L2
local macro_rules | `(tactic| walk_at "hp") => `(tactic| first | assumption | exact upd_same | (refine hp_new ?_ (by assumption); walk_at "hp") | (refine hp_mut ?_ (by first | assumption | (apply Ne.symm; assumption)); walk_at "hp") | (refine Same.at (by assumption) ?_; walk_at "hp"))
local macro_rules | `(tactic| walk_at "same") => `(tactic| first | exact fun _ _ z => z | assumption | (refine same_new ?_ (by assumption); walk_at "same") | (refine L2.Same.trans ?_ (by assumption); walk_at "same"))
local macro_rules | `(tactic| walk_at "sq") => `(tactic| exact SqL.of (by walk_at "hp"))
local macro_rules | `(tactic| walk_at "sqT") => `(tactic| exact SqT.of (by walk_at "hp"))

open LamX
section
variable {P : Program} {w : World} {K : PySem.W.Frag} {mg : Str → Option Value} {base : Heap}
theorem ok_is_int (T : TX K mg) : FnOk P w K mg base CX0 1 T.f_is_int T.d_is_int ["thing"] (spIsIntA K) := by
  refine T.F_is_int.ok sc_is_int (fun vs H Q E h => ?_) (fun cdv A out s H vs Q E hr h => ?_)
  · obtain ⟨v, c, rfl, h, k⟩ := h
    rfl
  · obtain ⟨v, c, rfl, h, k⟩ := h
    refine ⟨_, (pss_one (ps_ret (pe_and (pe_callB call_isi (by rfl) T.b_isinstance (by decide +kernel) (pa_cons (pv 0) (pa_cons (pe_bltn (v := .ty "int") (by rfl) T.b_int (by decide +kernel) rfl) pa_nil))) (pe_one (pe_not (pe_callB call_isi (by rfl) T.b_isinstance (by decide +kernel) (pa_cons (pv 0) (pa_cons (pe_bltn (v := .ty "bool") (by rfl) T.b_bool (by decide +kernel) rfl) pa_nil)))))))), ?_⟩
    rcases h with ⟨i, rfl, rfl⟩ | ⟨x, rfl, rfl⟩ | ⟨t, ty, kt, rfl⟩
    · refine ⟨_, rfl, _, _, _, _, true, rfl, .ty "int", .base (.int i), kit_ty (by decide +kernel), _, rfl, ?_⟩
      refine iteT ?_
      exact ⟨_, rfl, _, _, _, _, false, rfl, .ty "bool", .base (.int i), kit_ty (by decide +kernel), _, rfl, k⟩
    · refine ⟨_, rfl, _, _, _, _, true, rfl, .ty "int", .base (.bl x), kit_ty (by decide +kernel), _, rfl, ?_⟩
      refine iteT ?_
      exact ⟨_, rfl, _, _, _, _, true, rfl, .ty "bool", .base (.bl x), kit_ty (by decide +kernel), _, rfl, k⟩
    · refine ⟨_, rfl, _, _, _, _, false, rfl, .ty "int", ty, kt, _, rfl, ?_⟩
      refine iteF ?_
      exact k
theorem r_is_int (T : TX K mg) : FnR P w K mg base CX0 1 T.f_is_int (spIsIntA K) := rawAll (ok_is_int T) (bd_is_int T.F_is_int)
theorem ok_is_name (T : TX K mg) : FnOk P w K mg base CX0 1 T.f_is_name T.d_is_name ["thing"] (spIsName K) := by
  refine T.F_is_name.ok sc_is_name (fun vs H Q E h => ?_) (fun cdv A out s H vs Q E hr h => ?_)
  · obtain ⟨v, b, rfl, hb, k⟩ := h
    rfl
  · obtain ⟨v, b, rfl, hb, k⟩ := h
    refine ⟨_, (pss_cons (ps_if (PW.pt (pw_or (pt_not (pt_val (pe_callB call_isi (by rfl) T.b_isinstance (by decide +kernel) (pa_cons (pv 0) (pa_cons (pe_bltn (v := .ty "str") (by rfl) T.b_str (by decide +kernel) rfl) pa_nil))))) (pw_or1 (pt_not (pt_chain op_le op_le pe_int (pe_callB call_len_str (by rfl) T.b_len PySem.boot_len (pa_cons (pv 0) pa_nil)) (pe_glob (v := .int 8) (by rfl) T.m_LONGEST ⟨_, rfl⟩)))))) (pss_one (ps_ret pe_bl)) pss_nil)
 (pss_one (ps_ret (pe_and (pe_cmpR op_notIn_seq (pv 0) (pe_glob (v := .ref T.a_RESERVED) (by rfl) T.m_RESERVED rfl) (by rfl)) (pe_and (pe_bm0 PySem.F.plainAttrs_str PySem.F.slot_str_isascii PySem.F.type_str_isascii mt_isascii (pv 0)) (pe_and (pe_bm0 PySem.F.plainAttrs_str PySem.F.slot_str_isalpha PySem.F.type_str_isalpha mt_isalpha (pv 0)) (pe_one (pe_bm0 PySem.F.plainAttrs_str PySem.F.slot_str_islower PySem.F.type_str_islower mt_islower (pv 0))))))))), ?_⟩
    have key : (∃ x, v = .str x ∧ x.length ≤ sizeLine ∧ b = isName x) ∨ (NoStr K H v ∧ b = false) := by
      rcases hb with ⟨rfl, x, rfl, xl, xn⟩ | ⟨rfl, ⟨x, rfl, xl, xn⟩ | h⟩
      · exact .inl ⟨x, rfl, xl, xn.symm⟩
      · exact .inl ⟨x, rfl, xl, xn.symm⟩
      · exact .inr ⟨h, rfl⟩
    rcases key with ⟨x, rfl, xl, rfl⟩ | ⟨⟨t, ty, kt⟩, rfl⟩
    · refine ⟨_, rfl, _, _, _, _, true, rfl, .ty "str", .base (.str x), kit_ty (by decide +kernel), _, rfl, ?_⟩
      refine iteF ?_
      refine ⟨_, rfl, x, rfl, xl, _, _, rfl, rfl, _, rfl, ?_⟩
      have FIN : decide ((1 : Int) ≤ (x.length : Int)) = true → decide ((x.length : Int) ≤ 8) = true → Q (.bl ((!inV (.str x) resV) && (Txt.isascii x && (Txt.isalpha x && Txt.islower x)))) H := fun h1 h2 => by
        have e : isName x = ((!inV (.str x) resV) && (Txt.isascii x && (Txt.isalpha x && Txt.islower x))) := by unfold isName; rw [h1, h2]; rfl
        rw [← e]; exact k
      have NO : (decide ((1 : Int) ≤ (x.length : Int)) && decide ((x.length : Int) ≤ 8)) = false → Q (.bl false) H := fun h1 => by
        have e : isName x = false := by unfold isName; rw [h1]; rfl
        rw [← e]; exact k
      cases h1 : decide ((1 : Int) ≤ (x.length : Int)) with
      | false =>
        refine iteF ?_
        refine ⟨_, rfl, ?_⟩
        refine iteT ?_
        exact NO (by rw [h1]; rfl)
      | true =>
        refine iteT ?_
        refine ⟨_, _, rfl, rfl, _, rfl, ?_⟩
        cases h2 : decide ((x.length : Int) ≤ 8) with
        | false =>
          refine iteT ?_
          exact NO (by rw [h1, h2]; rfl)
        | true =>
          refine iteF ?_
          have k := FIN h1 h2
          refine ⟨_, rfl, _, resV, rfl, .inr (T.resT H), rfl, rfl, _, rfl, ?_⟩
          cases h3 : inV (.str x) resV with
          | true =>
            rw [h3] at k
            exact k
          | false =>
            rw [h3] at k
            refine iteT ?_
            refine ⟨_, rfl, rfl, x, rfl, rfl, trivial, _, rfl, ?_⟩
            cases h4 : Txt.isascii x with
            | false =>
              rw [h4] at k
              exact k
            | true =>
              rw [h4] at k
              refine iteT ?_
              refine ⟨_, rfl, rfl, x, rfl, rfl, trivial, _, rfl, ?_⟩
              cases h5 : Txt.isalpha x with
              | false =>
                rw [h5] at k
                exact k
              | true =>
                rw [h5] at k
                refine iteT ?_
                exact ⟨_, rfl, rfl, x, rfl, rfl, trivial, k⟩
    · refine ⟨_, rfl, _, _, _, _, false, rfl, .ty "str", ty, kt, _, rfl, ?_⟩
      refine iteT ?_
      refine iteT ?_
      exact k
theorem r_is_name (T : TX K mg) : FnR P w K mg base CX0 1 T.f_is_name (spIsName K) := rawAll (ok_is_name T) (bd_is_name T.F_is_name)
theorem ok_ordered_links (T : TX K mg) : FnOk P w K mg base CX0 1 T.f_ordered_links T.d_ordered_links ["links"] (spOrd K) := by
  refine T.F_ordered_links.ok sc_ordered_links (fun vs H Q E h => ?_) (fun cdv A out s H vs Q E hr h => ?_)
  · obtain ⟨v, xs, ls, rfl, ⟨p, rfl, hp⟩, tl, few, k⟩ := h
    rfl
  · obtain ⟨v, xs, ls, rfl, ⟨p, rfl, hp⟩, tl, few, k⟩ := h
    refine ⟨_, (pss_cons (ps_setLc (i := 1) (own := [("name", 2), ("u", 3), ("v", 4)]) (g := (gTup K 3 (gCons (gName 2) (gCons (gName 3) (gCons (gName 4) gNil))))) (tt := tYes) (by rfl) sc_ordered_links.nd rfl rfl (sw_true rfl rfl rfl (by decide +kernel)) (pi_or (pi_list (pv 0)) (pi_tup (pv 0))) (blkOk_by (own := [("name", 2), ("u", 3), ("v", 4)]) (N := N_ordered_links) (sc := defScope s_ordered_links) (by decide +kernel)) (fun _ _ _ _ _ => (pg_tup (by rfl) (pgs_cons (pg_name (i := 2) sc_ordered_links.nd rfl (Or.inl rfl)) (pgs_cons (pg_name (i := 3) sc_ordered_links.nd rfl (Or.inl rfl)) (pgs_cons (pg_name (i := 4) sc_ordered_links.nd rfl (Or.inl rfl)) pgs_nil))))) (fun _ _ _ _ _ => pts_nil) (fun _ _ _ _ _ => (pe_ifExp (pt_cmpR op_le (pv 3) (pv 4) (nomark _)) (pe_tup (pa_cons (pv 2) (pa_cons (pv 3) (pa_cons (pv 4) pa_nil)))) (pe_tup (pa_cons (pv 2) (pa_cons (pv 4) (pa_cons (pv 3) pa_nil)))))))
 (pss_cons (ps_set (i := 5) sc_ordered_links.nd rfl (Or.inl rfl) (pe_callB (r := rSortM K P w) (cr_sortM rfl) (by rfl) T.b_sorted (by decide +kernel) (pa_cons (pe_callTy (r := rSetM K P w) (cr_setM rfl hr.units) (by rfl) T.b_set (by decide +kernel) (pa_cons (pe_lc (own := [("at", 6), ("name", 2), ("u", 3), ("v", 4)]) (g := (gTup K 2 (gCons (gName 6) (gCons (gTup K 3 (gCons (gName 2) (gCons (gName 3) (gCons (gName 4) gNil)))) gNil)))) (tt := tYes) (by rfl) sc_ordered_links.nd (pi_enum (by rfl) T.b_enumerate (pa_cons (pv 1) pa_nil)) (blkOk_by (own := [("at", 6), ("name", 2), ("u", 3), ("v", 4)]) (N := N_ordered_links) (sc := defScope s_ordered_links) (by decide +kernel)) (fun _ _ _ _ _ => (pg_tup (by rfl) (pgs_cons (pg_name (i := 6) sc_ordered_links.nd rfl (Or.inl rfl)) (pgs_cons (pg_tup (by rfl) (pgs_cons (pg_name (i := 2) sc_ordered_links.nd rfl (Or.inl rfl)) (pgs_cons (pg_name (i := 3) sc_ordered_links.nd rfl (Or.inl rfl)) (pgs_cons (pg_name (i := 4) sc_ordered_links.nd rfl (Or.inl rfl)) pgs_nil)))) pgs_nil)))) (fun _ _ _ _ _ => pts_nil) (fun _ _ _ _ _ => (pe_tup (pa_cons (pv 2) (pa_cons (pv 3) (pa_cons (pv 4) (pa_cons (pv 6) pa_nil))))))) pa_nil)) pa_nil)))
 (pss_one (ps_ret (pe_callTy call_tuple_of (by rfl) T.b_tuple (by decide +kernel) (pa_cons (pe_lc (own := [("row", 7)]) (g := (gName 7)) (tt := tYes) (by rfl) sc_ordered_links.nd (pi_list (pv 5)) (blkOk_by (own := [("row", 7)]) (N := N_ordered_links) (sc := defScope s_ordered_links) (by decide +kernel)) (fun _ _ _ _ _ => (pg_name (i := 7) sc_ordered_links.nd rfl (Or.inl rfl))) (fun _ _ _ _ _ => pts_nil) (fun _ _ _ _ _ => (pe_slice (r := rSlT K) sl_tup (pv 7) po_none (po_some pe_int)))) pa_nil)))))), ?_⟩
    refine seq_iter (xs := xs) rfl hp fun J G W gS D nD => ?_
    have tln := tl.len
    refine lc_it W (fun i H' => Same H H' ∧ ∃ acc, H' D = some (.lst acc) ∧ TLs H' acc ((ls.take i).map norm)) ⟨Same.new nD, [], upd_same, by rw [List.take_zero]; exact .nil⟩ (fun i H' _ z => gS H' z.1) ?_ ?_
    · rintro i y H1 H2 hi ⟨s1, acc, hD, ta⟩ ⟨rfl, hy⟩
      obtain ⟨l, el, q, rfl, hq⟩ := pair_at tl hy
      have hq := s1 _ _ hq
      refine ⟨q, _, rfl, SqT.of hq, rfl, _, _, rfl, _, _, rfl, _, _, rfl, rfl, ?_⟩
      refine ⟨rfl, ?_⟩
      have la := ta.len
      rw [List.length_map, List.length_take] at la
      have nxt : (ls.take (i + 1)).map norm = (ls.take i).map norm ++ [norm l] := by rw [List.take_add_one, el, List.map_append]; rfl
      refine ⟨_, rfl, _, rfl, _, _, rfl, rfl, _, rfl, ?_⟩
      refine ite2 (fun z => ?_) (fun z => ?_)
      · have z : l.2.1 ≤ l.2.2 := of_decide_eq_true z
        have en : norm l = l := if_pos z
        refine ⟨_, rfl, _, rfl, _, rfl, by show 3 ≤ sizeLine; decide, fun r nr => ?_⟩
        refine ⟨acc, hp_new hD nr, by rw [sizeLine_eq]; omega, same_mut (s1.trans (Same.new nr)) nD, acc ++ [.ref r], upd_same, ?_⟩
        rw [nxt, en]
        have st : StT _ (upd (upd _ r (.tup [.str l.1, .int l.2.1, .int l.2.2])) D (.lst (acc ++ [.ref r]))) := ((StT.refl _).new nr).mut (hp_new hD nr) (fun _ z => by cases z)
        exact (ta.st st).snoc ⟨r, rfl, hp_mut upd_same (ne_of_none hD nr).symm⟩
      · have z : ¬ l.2.1 ≤ l.2.2 := fun h => z (decide_eq_true h)
        have en : norm l = (l.1, l.2.2, l.2.1) := if_neg z
        refine ⟨_, rfl, _, rfl, _, rfl, by show 3 ≤ sizeLine; decide, fun r nr => ?_⟩
        refine ⟨acc, hp_new hD nr, by rw [sizeLine_eq]; omega, same_mut (s1.trans (Same.new nr)) nD, acc ++ [.ref r], upd_same, ?_⟩
        rw [nxt, en]
        have st : StT _ (upd (upd _ r (.tup [.str l.1, .int l.2.2, .int l.2.1])) D (.lst (acc ++ [.ref r]))) := ((StT.refl _).new nr).mut (hp_new hD nr) (fun _ z => by cases z)
        exact (ta.st st).snoc ⟨r, rfl, hp_mut upd_same (ne_of_none hD nr).symm⟩
    rintro H1 ⟨s1, acc, hD, ta⟩
    rw [tln, List.take_length] at ta
    clear nD gS W
    have alen := ta.len
    rw [List.length_map] at alen
    refine ⟨_, rfl, D, _, rfl, SqL.of hD, fun D2 nD2 => ?_⟩
    refine lc_it (walk_enum (K := K) (a := D) (xs := acc)) (fun i H' => Same H1 H' ∧ ∃ rs : List Addr, H' D2 = some (.lst (rs.map V.ref)) ∧ Paired (fun r (kk : List Key) => H' r = some (.tup (kk.map kV))) rs ((rowsK 0 (ls.map norm)).take i)) ⟨Same.new nD2, [], upd_same, by rw [List.take_zero]; exact .nil⟩ (fun i H' _ z => SqL.of (z.1 _ _ hD)) ?_ ?_
    · rintro i y H2 H3 hi ⟨s2, rs, hD2, tr⟩ ⟨T2, x1, y1, rfl, nT, rfl, e1, e2⟩
      cases e1
      obtain ⟨l, el, q, rfl, hq⟩ := pair_at ta e2
      have hq := hp_new (o := .tup [.int (i : Nat), .ref q]) (s2 _ _ hq) nT
      refine ⟨T2, _, rfl, SqT.of upd_same, rfl, _, _, rfl, _, _, rfl, q, _, rfl, SqT.of hq, rfl, _, _, rfl, _, _, rfl, _, _, rfl, rfl, rfl, ?_⟩
      refine ⟨rfl, ?_⟩
      refine ⟨_, rfl, _, rfl, _, rfl, _, rfl, by show 4 ≤ sizeLine; decide, fun r nr => ?_⟩
      have s3 := (s2.trans (Same.new nT (o := .tup [.int (i : Nat), .ref q]))).trans (Same.new nr (o := .tup [.str l.1, .int l.2.1, .int l.2.2, .int (i : Nat)]))
      have hD3 := hp_new (o := .tup [.str l.1, .int l.2.1, .int l.2.2, .int (i : Nat)]) (hp_new (o := .tup [.int (i : Nat), .ref q]) hD2 nT) nr
      have nrD : r ≠ D2 := (ne_of_none (hp_new (o := .tup [.int (i : Nat), .ref q]) hD2 nT) nr).symm
      have rl := Paired.length tr
      rw [List.length_take, rowsK_len, List.length_map] at rl
      refine ⟨_, hD3, by rw [List.length_map, sizeLine_eq]; omega, same_mut s3 nD2, rs ++ [r], by rw [upd_same, List.map_append]; rfl, ?_⟩
      rw [List.take_add_one, rowsK_at 0 (ls.map norm) i l el]
      refine Paired.snoc (Paired.mono (fun a b h => ?_) tr) ?_
      · exact hp_mut (hp_new (hp_new h nT) nr) fun z => by subst z; rw [h] at hD2; cases hD2
      · rw [Nat.zero_add]
        exact hp_mut upd_same nrD
    rintro H2 ⟨s2, rs, hD2, tr⟩
    rw [alen, show ls.length = (rowsK 0 (ls.map norm)).length from by rw [rowsK_len, List.length_map], List.take_length] at tr
    obtain ⟨z1, z2, z3⟩ := pair_zip tr
    generalize hks : rs.zip (rowsK 0 (ls.map norm)) = ks at z1 z2 z3
    have kl : ks.length = ls.length := by
      have := congrArg List.length z2
      rwa [List.length_map, rowsK_len, List.length_map] at this
    refine ⟨D2, ks, rfl, SqL.of (by rw [hD2, ← z1, List.map_map]; rfl), (fun e he => SqT.of (z3 e he)), by rw [z2]; exact rowsK_one _ _, by omega, fun a L na pm => ?_⟩
    have s3 := Same.new na (o := BagO P w a L)
    refine ⟨a, L, shR, rfl, upd_same, (fun e he => ⟨SqT.of (s3 _ _ (z3 e (pm.mem_iff.mp he))), ?_⟩), fun p3 L' np pm' pw => ?_⟩
    · have m : e.2 ∈ rowsK 0 (ls.map norm) := by
        rw [← z2]
        exact List.mem_map_of_mem (f := fun e : Addr × List Key => e.2) (pm.mem_iff.mp he)
      obtain ⟨l, _, i, _, e3⟩ := rowsK_of _ _ m
      rw [e3]
      exact rowK_shape l _
    obtain ⟨fin, each⟩ := rows_ord z2 pm pm' pw
    have s4 := s3.trans (Same.new np (o := .lst (L'.map fun e => V.ref e.1)))
    have hP := upd_same (H := upd H2 a (BagO P w a L)) (a := p3) (o := .lst (L'.map fun e => V.ref e.1))
    have mem4 : ∀ e ∈ L', upd (upd H2 a (BagO P w a L)) p3 (.lst (L'.map fun e => V.ref e.1)) e.1 = some (.tup (e.2.map kV)) := fun e he => s4 _ _ (z3 e ((pm'.trans pm).mem_iff.mp he))
    have S4 := s1.trans (s2.trans s4)
    generalize upd (upd H2 a (BagO P w a L)) p3 (.lst (L'.map fun e => V.ref e.1)) = H4 at hP mem4 S4 ⊢
    clear s4 s3 np na pm pm' pw z3 hD2 tr nD2
    have ll : L'.length = ls.length := by
      have := congrArg List.length fin
      rwa [List.length_map, ordL_len] at this
    refine ⟨_, rfl, p3, rfl, ⟨_, SqL.of hP⟩, fun D3 nD3 => ?_⟩
    refine lc_list (xs := L'.map fun e => V.ref e.1) (fun i H' => Same H4 H' ∧ ∃ acc, H' D3 = some (.lst acc) ∧ TLs H' acc ((L'.map fun e => toLk e.2).take i)) ⟨Same.new nD3, [], upd_same, by rw [List.take_zero]; exact .nil⟩ (fun i H' _ z => SqL.of (z.1 _ _ hP)) ?_ ?_
    · rintro i y H5 hy ⟨s5, acc5, hD5, t5⟩
      rw [List.getElem?_map] at hy
      obtain ⟨e, he, rfl⟩ := Option.map_eq_some_iff.mp hy
      have em := List.mem_of_getElem? he
      obtain ⟨l, j, e3⟩ := each e em
      have h5 := s5 _ _ (mem4 e em)
      rw [e3] at h5
      have tl5 := t5.len
      have nl := tl5.trans (show _ = min i L'.length by rw [List.length_take, List.length_map])
      refine ⟨rfl, _, rfl, _, rfl, e.1, _, rfl, SqT.of h5, (by show ¬ ((0 : Nat) = 0 ∧ HT.sIx 4 4 (some 3) = 4); decide), fun r nr => ?_⟩
      rw [show cutV ((rowK l j).map kV) none (some 3) = [.str l.1, .int l.2.1, .int l.2.2] from rfl] at *
      have st : StT H5 (upd (upd H5 r (.tup [.str l.1, .int l.2.1, .int l.2.2])) D3 (.lst (acc5 ++ [.ref r]))) := ((StT.refl _).new nr).mut (hp_new hD5 nr) (fun _ z => by cases z)
      refine ⟨acc5, hp_new hD5 nr, by rw [sizeLine_eq]; omega, same_mut (s5.trans (Same.new nr)) nD3, acc5 ++ [.ref r], upd_same, ?_⟩
      rw [List.take_add_one, List.getElem?_map, he]
      refine (t5.st st).snoc ⟨r, rfl, ?_⟩
      have tk : toLk e.2 = l := by rw [e3, toLk_row]
      dsimp only
      rw [tk]
      exact hp_mut upd_same (ne_of_none hD5 nr).symm
    rintro H5 ⟨s5, acc5, hD5, t5⟩
    rw [List.length_map, show L'.length = (L'.map fun e => toLk e.2).length from by rw [List.length_map], List.take_length, fin] at t5
    refine ⟨D3, _, rfl, .inl ⟨SqL.of hD5, fun q nq => ?_⟩⟩
    exact k q _ (S4.trans (s5.trans (Same.new nq))) ⟨_, upd_same, t5.st ((StT.refl _).new nq)⟩
theorem r_ordered_links (T : TX K mg) : FnR P w K mg base CX0 1 T.f_ordered_links (spOrd K) := rawAll (ok_ordered_links T) (bd_ordered_links T.F_ordered_links)
theorem ok_joints_of (T : TX K mg) : FnOk P w K mg base CX0 1 T.f_joints_of T.d_joints_of ["links"] (spJoints K) := by
  refine T.F_joints_of.ok sc_joints_of (fun vs H Q E h => ?_) (fun cdv A out s H vs Q E hr h => ?_)
  · obtain ⟨v, xs, ls, rfl, ⟨p, rfl, hp⟩, tl, few, k⟩ := h
    rfl
  · obtain ⟨v, xs, ls, rfl, ⟨p, rfl, hp⟩, tl, few, k⟩ := h
    refine ⟨_, (pss_one (ps_ret (pe_callB (r := rSortKI P w) (cr_sortKI rfl (hu2_of hr)) (by rfl) T.b_sorted (by decide +kernel) (pa_cons (pe_callTy (r := rSetK K P w) (cr_setK rfl) (by rfl) T.b_set (by decide +kernel) (pa_cons (pe_op op_cat (pe_op op_cat (pe_lst (pa_cons pe_int (pa_cons pe_int pa_nil))) (pe_lc (own := [("_", 1), ("u", 2), ("v", 3)]) (g := (gTup K 3 (gCons (gName 1) (gCons (gName 2) (gCons (gName 3) gNil))))) (tt := tYes) (by rfl) sc_joints_of.nd (pi_or (pi_list (pv 0)) (pi_tup (pv 0))) (blkOk_by (own := [("_", 1), ("u", 2), ("v", 3)]) (N := N_joints_of) (sc := defScope s_joints_of) (by decide +kernel)) (fun _ _ _ _ _ => (pg_tup (by rfl) (pgs_cons (pg_name (i := 1) sc_joints_of.nd rfl (Or.inl rfl)) (pgs_cons (pg_name (i := 2) sc_joints_of.nd rfl (Or.inl rfl)) (pgs_cons (pg_name (i := 3) sc_joints_of.nd rfl (Or.inl rfl)) pgs_nil))))) (fun _ _ _ _ _ => pts_nil) (fun _ _ _ _ _ => (pv 2)))) (pe_lc (own := [("_", 1), ("u", 2), ("v", 3)]) (g := (gTup K 3 (gCons (gName 1) (gCons (gName 2) (gCons (gName 3) gNil))))) (tt := tYes) (by rfl) sc_joints_of.nd (pi_or (pi_list (pv 0)) (pi_tup (pv 0))) (blkOk_by (own := [("_", 1), ("u", 2), ("v", 3)]) (N := N_joints_of) (sc := defScope s_joints_of) (by decide +kernel)) (fun _ _ _ _ _ => (pg_tup (by rfl) (pgs_cons (pg_name (i := 1) sc_joints_of.nd rfl (Or.inl rfl)) (pgs_cons (pg_name (i := 2) sc_joints_of.nd rfl (Or.inl rfl)) (pgs_cons (pg_name (i := 3) sc_joints_of.nd rfl (Or.inl rfl)) pgs_nil))))) (fun _ _ _ _ _ => pts_nil) (fun _ _ _ _ _ => (pv 3)))) pa_nil)) pa_nil)))), ?_⟩
    have tln := tl.len
    refine ⟨by show 2 ≤ sizeLine; decide, fun d0 n0 => ?_⟩
    have S0 := Same.new n0 (o := .lst [.int 0, .int 1])
    have h0 := upd_same (H := H) (a := d0) (o := .lst [.int 0, .int 1])
    generalize upd H d0 (.lst [.int 0, .int 1]) = H0 at S0 h0 ⊢
    clear n0
    have hpD : SqL K _ p xs ∨ SqT K _ p xs := hp.imp (sqL_st S0) (sqT_st S0)
    refine seq_iter (xs := xs) rfl hpD fun J G W gS D nD => ?_
    refine lc_it W (fun i H' => Same H0 H' ∧ H' D = some (.lst ((ls.take i).map fun l => V.int l.2.1))) ⟨Same.new nD, by rw [List.take_zero]; exact upd_same⟩ (fun i H' _ z => gS H' z.1) ?_ ?_
    · rintro i y H1 H2 hi ⟨s1, hD⟩ ⟨rfl, hy⟩
      obtain ⟨l, el, q, rfl, hq⟩ := pair_at tl hy
      have hq := s1 _ _ (S0 _ _ hq)
      refine ⟨q, _, rfl, SqT.of hq, rfl, _, _, rfl, _, _, rfl, _, _, rfl, rfl, ?_⟩
      refine ⟨rfl, _, rfl, _, hD, by rw [List.length_map, List.length_take, sizeLine_eq]; omega, same_mut s1 nD, ?_⟩
      rw [upd_same, List.take_add_one, el, List.map_append]
      rfl
    rintro H1 ⟨sD, hD⟩
    rw [tln, List.take_length] at hD
    clear W gS nD hpD
    refine ⟨d0, D, _, _, rfl, rfl, sD _ _ h0, hD, by rw [List.length_map, sizeLine_eq]; show 2 + _ ≤ _; omega, fun z nz => ?_⟩
    have S1 := (S0.trans sD).trans (Same.new nz (o := .lst ([.int 0, .int 1] ++ ls.map fun l => V.int l.2.1)))
    have hz := upd_same (H := H1) (a := z) (o := .lst ([.int 0, .int 1] ++ ls.map fun l => V.int l.2.1))
    generalize upd H1 z (.lst ([.int 0, .int 1] ++ ls.map fun l => V.int l.2.1)) = H2 at S1 hz ⊢
    clear nz hD sD h0 S0
    have hpD2 : SqL K _ p xs ∨ SqT K _ p xs := hp.imp (sqL_st S1) (sqT_st S1)
    refine seq_iter (xs := xs) rfl hpD2 fun J G W gS D2 nD2 => ?_
    refine lc_it W (fun i H' => Same H2 H' ∧ H' D2 = some (.lst ((ls.take i).map fun l => V.int l.2.2))) ⟨Same.new nD2, by rw [List.take_zero]; exact upd_same⟩ (fun i H' _ z => gS H' z.1) ?_ ?_
    · rintro i y H1 H2 hi ⟨s1, hD⟩ ⟨rfl, hy⟩
      obtain ⟨l, el, q, rfl, hq⟩ := pair_at tl hy
      have hq := s1 _ _ (S1 _ _ hq)
      refine ⟨q, _, rfl, SqT.of hq, rfl, _, _, rfl, _, _, rfl, _, _, rfl, rfl, ?_⟩
      refine ⟨rfl, _, rfl, _, hD, by rw [List.length_map, List.length_take, sizeLine_eq]; omega, same_mut s1 nD2, ?_⟩
      rw [upd_same, List.take_add_one, el, List.map_append]
      rfl
    rintro H3 ⟨sD2, hD2⟩
    rw [tln, List.take_length] at hD2
    clear W gS nD2 hpD2
    refine ⟨z, D2, _, _, rfl, rfl, sD2 _ _ hz, hD2, by rw [List.length_append, List.length_map, List.length_map, sizeLine_eq]; show 2 + _ + _ ≤ _; omega, fun y ny => ?_⟩
    have S3 := (S1.trans sD2).trans (Same.new ny (o := .lst (([.int 0, .int 1] ++ ls.map fun l => V.int l.2.1) ++ ls.map fun l => V.int l.2.2)))
    have hy := upd_same (H := H3) (a := y) (o := .lst (([.int 0, .int 1] ++ ls.map fun l => V.int l.2.1) ++ ls.map fun l => V.int l.2.2))
    generalize upd H3 y (.lst (([.int 0, .int 1] ++ ls.map fun l => V.int l.2.1) ++ ls.map fun l => V.int l.2.2)) = H4 at S3 hy ⊢
    have ev : ([V.int 0, .int 1] ++ ls.map fun l : Lk => V.int l.2.1) ++ (ls.map fun l : Lk => V.int l.2.2) = ((([0, 1] ++ ls.map (fun l : Lk => l.2.1)) ++ ls.map fun l : Lk => l.2.2).map (Sum.inl : Int → Key)).map kV := by
      simp only [List.map_append, List.map_map, List.map_cons, List.map_nil]
      rfl
    refine ⟨y, _, rfl, SqL.of (hy.trans (by rw [ev])), by simp only [List.length_map, List.length_append, List.length_cons, List.length_nil]; omega, fun a ks na m => ?_⟩
    refine ⟨a, ks, _, rfl, upd_same, m, by simp only [List.length_map, List.length_append, List.length_cons, List.length_nil]; omega, fun p5 np => ?_⟩
    exact k p5 _ ((S3.trans (Same.new na)).trans (Same.new np)) upd_same
theorem r_joints_of (T : TX K mg) : FnR P w K mg base CX0 1 T.f_joints_of (spJoints K) := rawAll (ok_joints_of T) (bd_joints_of T.F_joints_of)
theorem ok_net_shape (T : TX K mg) : FnOk P w K mg base CX0 2 T.f_net_shape T.d_net_shape ["links"] (spNetB K (FR T)) := by
  refine T.F_net_shape.ok sc_net_shape (fun vs H Q E h => ?_) (fun cdv A out s H vs Q E hr h => ?_)
  · obtain ⟨v, xs, ls, rfl, ⟨p, rfl, hp⟩, tl, few, k⟩ := h
    rfl
  · obtain ⟨v, xs, ls, rfl, ⟨p, rfl, hp⟩, tl, few, k⟩ := h
    refine ⟨_, (pss_one (ps_ret (pe_ifExp (pt_truth (pv 0) (fun _ => rfl)) (pe_tup (pa_cons pe_str (pa_cons (pe_callR (r_ordered_links T) (hr.mono (by decide)) (by rfl) T.m_ordered_links T.F_ordered_links.kp pass0 (pa_cons (pv 0) pa_nil)) pa_nil))) (pe_glob (v := .ref T.a_SHUT) (by rfl) T.m_SHUT rfl)))), ?_⟩
    have tln := tl.len
    have T0 : ∀ (c : Bool), c = !xs.isEmpty → TruV K (V.ref p) H c := fun c e => by
      rcases hp with h | h
      · exact .inl ⟨xs, h, e⟩
      · exact .inr (.inl ⟨xs, h, e⟩)
    refine ⟨_, rfl, _, T0 _ rfl, ?_⟩
    cases ls with
    | nil =>
      cases tl
      refine iteF ?_
      exact k _ _ (Same.refl _) shv_shut
    | cons l r =>
      cases tl with
      | cons t u =>
        refine iteT ?_
        refine ⟨_, rfl, _, _, _, rfl, ⟨p, rfl, hp⟩, .cons t u, few, fun q H' s lt => ?_⟩
        refine ⟨by show 2 ≤ sizeLine; decide, fun z nz => ?_⟩
        refine k _ _ (s.trans (Same.new nz)) ?_
        unfold netB
        rw [if_neg (by simp)]
        exact shv_net upd_same (lt.st ((StT.refl _).new nz))
theorem r_net_shape (T : TX K mg) : FnR P w K mg base CX0 2 T.f_net_shape (spNetB K (FR T)) := rawAll (ok_net_shape T) (bd_net_shape T.F_net_shape)
theorem ok_moved_links (T : TX K mg) : FnOk P w K mg base CX0 2 T.f_moved_links T.d_moved_links ["links", "left", "right", "numbers"] (spMovB K) := by
  refine T.F_moved_links.ok sc_moved_links (fun vs H Q E h => ?_) (fun cdv A out s H vs Q E hr h => ?_)
  · obtain ⟨v, xs, ls, l, r, num, q, js, rfl, hv, tl, lok, few, hq, hjs, k⟩ := h
    rfl
  · obtain ⟨v, xs, ls, l, r, num, q, js, rfl, hv, tl, lok, few, hq, hjs, k⟩ := h
    refine ⟨_, (pss_cons (ps_set (i := 4) sc_moved_links.nd rfl (Or.inr rfl) (pe_disp (pps_cons pe_int (pv 1) (pps_cons pe_int (pv 2) pps_nil)) (by rfl) (by rfl) (by decide) (by decide)))
 (pss_cons (ps_for PassesOwn.never rfl (pi_enum (by rfl) T.b_enumerate (pa_cons (pe_slice sl_list (pe_callR (r_joints_of T) (hr.mono (by decide)) (by rfl) T.m_joints_of T.F_joints_of.kp pass0 (pa_cons (pv 0) pa_nil)) (po_some pe_int) po_none) pa_nil)) (pg_tup (by rfl) (pgs_cons (pg_name (i := 5) sc_moved_links.nd rfl (Or.inl rfl)) (pgs_cons (pg_name (i := 6) sc_moved_links.nd rfl (Or.inl rfl)) pgs_nil)))
 (pss_one (ps_dput (hu_of hr) (pv 4) (pv 6) (pe_ix ix_list (pv 3) (pv 5) (fun _ _ => rfl)) rfl)))
 (pss_one (ps_ret (pe_lc (own := [("name", 7), ("u", 8), ("v", 9)]) (g := (gTup K 3 (gCons (gName 7) (gCons (gName 8) (gCons (gName 9) gNil))))) (tt := tYes) (by rfl) sc_moved_links.nd (pi_or (pi_list (pv 0)) (pi_tup (pv 0))) (blkOk_by (own := [("name", 7), ("u", 8), ("v", 9)]) (N := N_moved_links) (sc := defScope s_moved_links) (by decide +kernel)) (fun _ _ _ _ _ => (pg_tup (by rfl) (pgs_cons (pg_name (i := 7) sc_moved_links.nd rfl (Or.inl rfl)) (pgs_cons (pg_name (i := 8) sc_moved_links.nd rfl (Or.inl rfl)) (pgs_cons (pg_name (i := 9) sc_moved_links.nd rfl (Or.inl rfl)) pgs_nil))))) (fun _ _ _ _ _ => pts_nil) (fun _ _ _ _ _ => (pe_tup (pa_cons (pv 7) (pa_cons (pe_dget (hu_of hr) (pv 4) (pv 8) (fun _ _ => rfl)) (pa_cons (pe_dget (hu_of hr) (pv 4) (pv 9) (fun _ _ => rfl)) pa_nil)))))))))), ?_⟩
    have tln := tl.len
    obtain ⟨jn, one, asc⟩ := joints_inn lok
    have il : (innL ls).length ≤ 2 * ls.length := inn_len ls
    refine fun t nt => ⟨_, rfl, _, rfl, upd_same, [(.inl 0, .int l), (.inl 1, .int r)], rfl, by show 2 ≤ 15; decide, ?_⟩
    have S0 : Same H (upd (upd H t (.dK [])) t (.dK (mergeK [] [(.inl 0, .int l), (.inl 1, .int r)]))) := same_mut (Same.new nt) nt
    have ht := upd_same (H := upd H t (.dK [])) (a := t) (o := .dK (mergeK [] [(.inl 0, .int l), (.inl 1, .int r)]))
    generalize upd (upd H t (.dK [])) t (.dK (mergeK [] [(.inl 0, .int l), (.inl 1, .int r)])) = H0 at S0 ht ⊢
    refine ⟨_, rfl, v, xs, ls, rfl, hv.same S0, tl.st (.same S0), few, fun z H1 s1 hz => ?_⟩
    refine ⟨_, rfl, z, _, rfl, SqL.of hz, fun u nu => ?_⟩
    rw [cut_inn]
    have S2 := (S0.trans s1).trans (Same.new nu (o := .lst ((innL ls).map V.int)))
    have hu := upd_same (H := H1) (a := u) (o := .lst ((innL ls).map V.int))
    have ht2 := hp_new (o := .lst ((innL ls).map V.int)) (s1 _ _ ht) nu
    generalize upd H1 u (.lst ((innL ls).map V.int)) = H2 at S2 hu ht2 ⊢
    clear nu hz s1 ht S0
    have ut : u ≠ t := fun z => by rw [z] at hu; rw [hu] at ht2; cases ht2
    refine ⟨u, _, rfl, SqL.of hu, ?_⟩
    refine for_it (walk_enum (K := K) (a := u) (xs := (innL ls).map V.int)) (fun i σ H' => ∃ b c kvs, σ = [some v, some (.int l), some (.int r), some (.ref q), some (.ref t), b, c, none, none, none] ∧ (∀ a o, H2 a = some o → a ≠ t → H' a = some o) ∧ H' t = some (.dK kvs) ∧ JMap l r num (innL ls) i kvs) ⟨_, _, _, rfl, fun _ _ e _ => e, ht2, jmap_0 _ _ _ _⟩ (fun i σ H' _ z => by obtain ⟨_, _, _, _, s, _⟩ := z; exact SqL.of (s _ _ hu ut)) ?_ ?_
    · rintro i y σ H3 H4 hi ⟨b, c, kvs, rfl, s3, h3, jm⟩ ⟨T2, x1, y1, rfl, nT, rfl, e1, e2⟩
      cases e1
      have e2 : ((innL ls).map V.int)[i]? = some y1 := e2
      rw [List.getElem?_map] at e2
      obtain ⟨j, ej, rfl⟩ := Option.map_eq_some_iff.mp e2
      rw [List.length_map] at hi
      refine ⟨T2, _, rfl, SqT.of upd_same, rfl, _, _, rfl, _, _, rfl, rfl, ?_⟩
      have hq3 := hp_new (o := .tup [.int (i : Nat), .int j]) (s3 _ _ (S2 _ _ hq) (fun z => by rw [z] at hq; rw [hq] at nt; cases nt)) nT
      refine ⟨_, rfl, _, rfl, _, _, _, _, rfl, rfl, SqL.of hq3, atI_nat (j := i) (hjs i hi), _, rfl, _, rfl, t, _, rfl, DPut.k (k := Sum.inl j) (hp_new h3 nT) (lt_line (by have := jm.1; omega)), ?_⟩
      refine ⟨_, _, _, rfl, fun a o e n => ?_, upd_same, jmap_step jm asc one ej⟩
      rw [upd_ne n]
      exact hp_new (s3 a o e n) nT
    rintro σ H3 ⟨b, c, kvs, rfl, s3, h3, jm⟩
    rw [List.length_map] at jm
    have S3 : Same H H3 := fun a o e => s3 a o (S2 a o e) fun z => by rw [z, nt] at e; cases e
    clear ht2 hu ut s3 S2 nt
    obtain ⟨p, rfl, hp⟩ := hv
    have hp3 : SqL K H3 p xs ∨ SqT K H3 p xs := hp.imp (sqL_st S3) (sqT_st S3)
    refine seq_iter (xs := xs) rfl hp3 fun J G W gS D nD => ?_
    refine lc_it W (fun i H' => Same H3 H' ∧ ∃ acc, H' D = some (.lst acc) ∧ TLs H' acc ((movG ls l r num).take i)) ⟨Same.new nD, [], upd_same, by rw [List.take_zero]; exact .nil⟩ (fun i H' _ z => gS H' z.1) ?_ ?_
    · rintro i y H4 H5 hi ⟨s4, acc, hD, ta⟩ ⟨rfl, hy⟩
      obtain ⟨k0, el, w0, rfl, hw⟩ := pair_at tl hy
      have hw := s4 _ _ (S3 _ _ hw)
      have h5 := s4 _ _ h3
      obtain ⟨m1, m2⟩ := inn_of lok (List.mem_of_getElem? el)
      have g1 := DGet.k (k := Sum.inl k0.2.1) h5
      have g2 := DGet.k (k := Sum.inl k0.2.2) h5
      rw [jmap_at jm m1] at g1
      rw [jmap_at jm m2] at g2
      refine ⟨w0, _, rfl, SqT.of hw, rfl, _, _, rfl, _, _, rfl, _, _, rfl, rfl, ?_⟩
      refine ⟨rfl, ?_⟩
      refine ⟨_, rfl, _, rfl, _, rfl, t, _, rfl, g1, _, rfl, _, rfl, t, _, rfl, g2, by show 3 ≤ sizeLine; decide, fun e ne => ?_⟩
      have al := ta.len
      rw [List.length_take, movG_len] at al
      refine ⟨acc, hp_new hD ne, by rw [sizeLine_eq]; omega, same_mut (s4.trans (Same.new ne)) nD, _, upd_same, ?_⟩
      have st : StT _ (upd (upd _ e (.tup [.str k0.1, .int (jmapN l r num (innL ls) k0.2.1), .int (jmapN l r num (innL ls) k0.2.2)])) D (.lst (acc ++ [.ref e]))) := ((StT.refl _).new ne).mut (hp_new hD ne) (fun _ z => by cases z)
      rw [List.take_add_one, show (movG ls l r num)[i]? = some (k0.1, jmapN l r num (innL ls) k0.2.1, jmapN l r num (innL ls) k0.2.2) from by unfold movG; rw [List.getElem?_map, el]; rfl]
      exact (ta.st st).snoc ⟨e, rfl, hp_mut upd_same (ne_of_none hD ne).symm⟩
    rintro H4 ⟨s4, acc, hD, ta⟩
    rw [tln, ← movG_len ls l r num, List.take_length] at ta
    exact k D H4 acc (S3.trans s4) hD ta
theorem r_moved_links (T : TX K mg) : FnR P w K mg base CX0 2 T.f_moved_links (spMovB K) := rawAll (ok_moved_links T) (bd_moved_links T.F_moved_links)
theorem ok_laid_net (T : TX K mg) : FnOk P w K mg base CX0 3 T.f_laid_net T.d_laid_net ["net_links", "left", "right", "free"] (spLayNB K) := by
  refine T.F_laid_net.ok sc_laid_net (fun vs H Q E h => ?_) (fun cdv A out s H vs Q E hr h => ?_)
  · obtain ⟨v, xs, ls, l, r, f, rfl, hv, tl, lok, few, f0, f1, k⟩ := h
    rfl
  · obtain ⟨v, xs, ls, l, r, f, rfl, hv, tl, lok, few, f0, f1, k⟩ := h
    refine ⟨_, (pss_cons (ps_set (i := 4) sc_laid_net.nd rfl (Or.inl rfl) (pe_slice sl_list (pe_callR (r_joints_of T) (hr.mono (by decide)) (by rfl) T.m_joints_of T.F_joints_of.kp pass0 (pa_cons (pv 0) pa_nil)) (po_some pe_int) po_none))
 (pss_cons (ps_set (i := 5) sc_laid_net.nd rfl (Or.inl rfl) (pe_callR (r_moved_links T) (hr.mono (by decide)) (by rfl) T.m_moved_links T.F_moved_links.kp pass0 (pa_cons (pv 0) (pa_cons (pv 1) (pa_cons (pv 2) (pa_cons (pe_listRg rfl (by rfl) T.b_list (prg_2 (by rfl) T.b_range (pv 3) (pe_op op_add (pv 3) (pe_callB call_len_seq (by rfl) T.b_len PySem.boot_len (pa_cons (pv 4) pa_nil))))) pa_nil))))))
 (pss_one (ps_ret (pe_tup (pa_cons (pv 5) (pa_cons (pe_op op_add (pv 3) (pe_callB call_len_seq (by rfl) T.b_len PySem.boot_len (pa_cons (pv 4) pa_nil))) pa_nil))))))), ?_⟩
    refine ⟨_, rfl, v, xs, ls, rfl, hv, tl, few, fun z H1 s1 hz => ?_⟩
    refine ⟨_, rfl, z, _, rfl, SqL.of hz, fun u nu => ?_⟩
    rw [cut_inn]
    have il : (innL ls).length ≤ 2 * ls.length := inn_len ls
    have S2 := s1.trans (Same.new nu (o := .lst ((innL ls).map V.int)))
    have hu := upd_same (H := H1) (a := u) (o := .lst ((innL ls).map V.int))
    generalize upd H1 u (.lst ((innL ls).map V.int)) = H2 at S2 hu ⊢
    have len2 : ((innL ls).map V.int).length = (innL ls).length := List.length_map _
    refine ⟨_, rfl, _, rfl, _, rfl, _, rfl, _, rfl, _, rfl, u, _, rfl, .inl (SqL.of hu), _, _, rfl, rfl, _, _, rfl, rfl, RgOk.of_le f0 (by omega) (by omega) (by omega), fun w nw => ?_⟩
    have S3 := S2.trans (Same.new nw (o := .lst (rgV f (f + ((((innL ls).map V.int).length : Nat) : Int)))))
    refine ⟨_, _, _, l, r, (fun i => f + ((i : Nat) : Int)), w, _, rfl, hv.same S3, tl.st (.same S3), lok, few, upd_same, fun i hi => ?_, fun p H3 ys s3 hp ty => ?_⟩
    · unfold rgV
      rw [List.getElem?_map, List.getElem?_range (by omega)]
      rfl
    have hu3 := s3 _ _ (hp_new (o := .lst (rgV f (f + ((((innL ls).map V.int).length : Nat) : Int)))) hu nw)
    refine ⟨_, rfl, _, rfl, _, rfl, u, _, rfl, .inl (SqL.of hu3), _, _, rfl, rfl, by show 2 ≤ sizeLine; decide, fun e ne => ?_⟩
    refine k e _ ((S3.trans s3).trans (Same.new ne)) ⟨p, ys, ?_, hp_new hp ne, ty.st ((StT.refl _).new ne)⟩
    rw [upd_same, len2]
theorem r_laid_net (T : TX K mg) : FnR P w K mg base CX0 3 T.f_laid_net (spLayNB K) := rawAll (ok_laid_net T) (bd_laid_net T.F_laid_net)
end
end RR
set_option maxHeartbeats 4000000
namespace RR
open PySem PySem.Spec PyProof.Rows L2
local macro_rules | `(tactic| walk_at "hp") => `(tactic| first | assumption | exact upd_same | (refine hp_new ?_ (by assumption); walk_at "hp") | (refine hp_mut ?_ (by first | assumption | (apply Ne.symm; assumption)); walk_at "hp") | (refine Same.at (by assumption) ?_; walk_at "hp"))
local macro_rules | `(tactic| walk_at "same") => `(tactic| first | exact fun _ _ z => z | assumption | (refine same_new ?_ (by assumption); walk_at "same") | (refine L2.Same.trans ?_ (by assumption); walk_at "same"))
local macro_rules | `(tactic| walk_at "sq") => `(tactic| exact SqL.of (by walk_at "hp"))
local macro_rules | `(tactic| walk_at "sqT") => `(tactic| exact SqT.of (by walk_at "hp"))

open LamX
section
variable {P : Program} {w : World} {K : PySem.W.Frag} {mg : Str → Option Value} {base : Heap}
theorem ok_laid (T : TX K mg) (d : Nat) (hL : FnR P w K mg base CX0 (2 * d + 3) T.f_laid (spLayB (FR T) d)) (hR : FnR P w K mg base CX0 (2 * d + 4) T.f_laid_row (spLayRB (FR T) d)) : FnOk P w K mg base CX0 (2 * d + 5) T.f_laid T.d_laid ["shape", "left", "right", "free"] (spLayB (FR T) (d + 1)) := by
  refine T.F_laid.ok sc_laid (fun vs H Q E h => ?_) (fun cdv A out s H vs Q E hr h => ?_)
  · obtain ⟨v, s, l, r, f, rfl, sv, ly, f0, f1, k⟩ := h
    rfl
  · obtain ⟨v, s, l, r, f, rfl, sv, ly, f0, f1, k⟩ := h
    refine ⟨_, (pss_cons (ps_set (i := 4) sc_laid.nd rfl (Or.inl rfl) (pe_ix ix_tup (pv 0) pe_int (fun _ _ => rfl)))
 (pss_cons (ps_if (pt_cmpR op_eq (pv 4) pe_str (nomark _)) (pss_one (ps_ret (pe_tup (pa_cons (pe_lst (pa_cons (pe_tup (pa_cons (pe_ix ix_tup (pv 0) pe_int (fun _ _ => rfl)) (pa_cons (pv 1) (pa_cons (pv 2) pa_nil)))) pa_nil)) (pa_cons (pv 3) pa_nil))))) pss_nil)
 (pss_cons (ps_if (pt_cmpR op_eq (pv 4) pe_str (nomark _)) (pss_one (ps_ret (pe_callR (r_laid_net T) (hr.mono (by omega)) (by rfl) T.m_laid_net T.F_laid_net.kp pass0 (pa_cons (pe_ix ix_tup (pv 0) pe_int (fun _ _ => rfl)) (pa_cons (pv 1) (pa_cons (pv 2) (pa_cons (pv 3) pa_nil))))))) pss_nil)
 (pss_cons (ps_if (pt_cmpR op_eq (pv 4) pe_str (nomark _)) (pss_one (ps_ret (pe_callR hR (hr.mono (by omega)) (by rfl) T.m_laid_row T.F_laid_row.kp pass0 (pa_cons (pe_ix ix_tup (pv 0) pe_int (fun _ _ => rfl)) (pa_cons (pv 1) (pa_cons (pv 2) (pa_cons (pv 3) pa_nil))))))) pss_nil)
 (pss_cons (ps_set (i := 5) sc_laid.nd rfl (Or.inl rfl) (pe_lst pa_nil))
 (pss_cons (ps_if (pt_cmpR op_eq (pv 4) pe_str (nomark _)) (pss_one (ps_for PassesOwn.never rfl (pi_tup (pe_ix ix_tup (pv 0) pe_int (fun _ _ => rfl))) (pg_name (i := 6) sc_laid.nd rfl (Or.inl rfl))
 (pss_cons (ps_asg (pe_callR hL (hr.mono (by omega)) (by rfl) T.m_laid T.F_laid.kp pass0 (pa_cons (pv 6) (pa_cons (pv 1) (pa_cons (pv 2) (pa_cons (pv 3) pa_nil))))) (pg_tup (by rfl) (pgs_cons (pg_name (i := 7) sc_laid.nd rfl (Or.inl rfl)) (pgs_cons (pg_name (i := 3) sc_laid.nd rfl (Or.inl rfl)) pgs_nil))))
 (pss_one (ps_expr (pe_bm PySem.F.plainAttrs_list PySem.F.slot_list_extend PySem.F.type_list_extend mt_extB (pv 5) (pa_cons (pv 7) pa_nil))))))) pss_nil)
 (pss_one (ps_ret (pe_tup (pa_cons (pv 5) (pa_cons (pv 3) pa_nil))))))))))), ?_⟩
    obtain ⟨nrm, dl, s64⟩ := ly
    cases s with
    | link n =>
      obtain ⟨q, rfl, hq⟩ := shv_link_of sv
      refine ⟨_, rfl, _, _, _, _, rfl, rfl, SqT.of hq, rfl, ?_⟩
      refine ⟨_, rfl, rfl, _, rfl, ?_⟩
      rw [decide_eq_true (show V.str (Str.ofString "link") = V.str (Str.ofString "link") from rfl)]
      refine iteT ?_
      refine ⟨_, rfl, _, _, _, _, rfl, rfl, SqT.of hq, rfl, _, rfl, _, rfl, by show 3 ≤ sizeLine; decide, fun a na => ?_⟩
      refine ⟨by show 1 ≤ sizeLine; decide, fun z nz => ?_⟩
      refine ⟨_, rfl, by show 2 ≤ sizeLine; decide, fun e ne => ?_⟩
      refine k e _ (((Same.new na).trans (Same.new nz)).trans (Same.new ne)) ?_
      rw [layS]
      exact ⟨z, _, upd_same, hp_new upd_same ne, .cons ⟨a, rfl, hp_new (hp_new upd_same nz) ne⟩ .nil⟩
    | net ls =>
      obtain ⟨q, p, vs', rfl, hq, hp, tl⟩ := shv_net_of sv
      rw [Nrm] at nrm
      rw [siz] at s64 f1
      refine ⟨_, rfl, _, _, _, _, rfl, rfl, SqT.of hq, rfl, ?_⟩
      refine ⟨_, rfl, rfl, _, rfl, ?_⟩
      rw [decide_eq_false (show ¬ V.str (Str.ofString "net") = V.str (Str.ofString "link") from by decide +kernel)]
      refine iteF ?_
      refine ⟨_, rfl, rfl, _, rfl, ?_⟩
      rw [decide_eq_true (show V.str (Str.ofString "net") = V.str (Str.ofString "net") from rfl)]
      refine iteT ?_
      refine ⟨_, rfl, _, _, _, _, rfl, rfl, SqT.of hq, rfl, _, rfl, _, rfl, _, rfl, _, vs', ls, l, r, f, rfl, ⟨p, rfl, .inr (SqT.of hp)⟩, tl, nrm.2.1, s64, f0, by omega, fun e H1 s1 lv => ?_⟩
      refine k e _ s1 ?_
      rw [layS]
      exact lv
    | node b ps =>
      obtain ⟨q, p, vs', rfl, hq, hp, hs⟩ := shv_node_of sv
      rw [nrm_node] at nrm
      rw [dep] at dl
      rw [siz] at s64 f1
      have each : ∀ t ∈ ps, Lay d t ∧ t ≠ .opn ∧ t ≠ .shut := fun t ht => ⟨⟨(nrm.2 t ht).1, by have := dep_mem ht; omega, by have := siz_mem ht; omega⟩, (nrm.2 t ht).2.1, (nrm.2 t ht).2.2.1⟩
      cases b
      · skip
        refine ⟨_, rfl, _, _, _, _, rfl, rfl, SqT.of hq, rfl, ?_⟩
        refine ⟨_, rfl, rfl, _, rfl, ?_⟩
        rw [decide_eq_false (show ¬ V.str (kn false) = V.str (Str.ofString "link") from by decide +kernel)]
        refine iteF ?_
        refine ⟨_, rfl, rfl, _, rfl, ?_⟩
        rw [decide_eq_false (show ¬ V.str (kn false) = V.str (Str.ofString "net") from by decide +kernel)]
        refine iteF ?_
        refine ⟨_, rfl, rfl, _, rfl, ?_⟩
        rw [decide_eq_false (show ¬ V.str (kn false) = V.str (Str.ofString "row") from by decide +kernel)]
        refine iteF ?_
        refine ⟨by show 0 ≤ sizeLine; decide, fun D nD => ?_⟩
        refine ⟨_, rfl, rfl, _, rfl, ?_⟩
        rw [decide_eq_true (show V.str (kn false) = V.str (Str.ofString "bunch") from rfl)]
        refine iteT ?_
        have hq2 := hp_new (o := .lst []) hq nD
        refine ⟨_, rfl, _, _, _, _, rfl, rfl, SqT.of hq2, rfl, p, rfl, ⟨_, SqT.of (hp_new (o := .lst []) hp nD)⟩, ?_⟩
        refine for_tup (xs := vs') (fun i σ H' => ∃ b c acc f', σ = [some (.ref q), some (.int l), some (.int r), some (.int f'), some (.str "bunch"), some (.ref D), b, c] ∧ Same H H' ∧ H' D = some (.lst acc) ∧ ∃ done, TLs H' acc done ∧ done.length = sizL (ps.take i) ∧ f ≤ f' ∧ f' ≤ f + 3 * ((sizL (ps.take i) : Nat) : Int) ∧ (done ++ (layP (ps.drop i) l r f').1, (layP (ps.drop i) l r f').2) = layP ps l r f) ⟨none, none, [], f, rfl, Same.new nD, upd_same, [], .nil, by rw [List.take_zero, sizL]; rfl, Int.le_refl _, by rw [List.take_zero, sizL]; omega, by rw [List.drop_zero, List.nil_append]⟩ (fun i σ H' _ z => by obtain ⟨_, _, _, _, _, s, _⟩ := z; exact SqT.of (s _ _ hp)) ?_ ?_
        · rintro i y σ H1 hy ⟨b, c, acc, f', rfl, s1, hD, done, td, dlen, fa, fb, ef⟩
          obtain ⟨t, et, tv⟩ := shVs_at hs hy
          have tm := List.mem_of_getElem? et
          have tk : sizL (ps.take (i + 1)) = sizL (ps.take i) + siz t := by rw [List.take_add_one, et, sizL_app]; congr 1
          have tks : sizL (ps.take (i + 1)) ≤ sizL ps := by
            conv => rhs; rw [← List.take_append_drop (i + 1) ps, sizL_app]
            omega
          have up := (lay_ok t (each t tm).1.1 (each t tm).2.1 (each t tm).2.2).up l r f'
          refine ⟨_, rfl, _, rfl, _, rfl, _, rfl, _, t, l, r, f', rfl, tv.st (.same s1), (each t tm).1, by omega, by omega, fun e H2 s2 lv => ?_⟩
          obtain ⟨z, zs, he, hz, tz⟩ := lv
          have hD2 := s2 _ _ hD
          refine ⟨e, _, rfl, SqT.of he, rfl, _, _, rfl, _, _, rfl, rfl, ?_⟩
          have zl := tz.len
          rw [lay_len] at zl
          have al := td.len
          refine ⟨_, rfl, .inl ⟨rfl, _, SqL.of hD2⟩, _, rfl, D, z, acc, zs, rfl, rfl, hD2, .inl hz, by rw [sizeLine_eq]; omega, ?_⟩
          have st : StT H2 (upd H2 D (.lst (acc ++ zs))) := (StT.refl _).mut hD2 (fun _ z => by cases z)
          refine ⟨_, _, _, _, rfl, same_mut (s1.trans s2) nD, upd_same, done ++ (layS t l r f').1, pair_app ((td.st (.same s2)).st st) (tz.st st), by rw [List.length_append, lay_len, tk, dlen], by omega, by rw [tk]; push_cast; omega, ?_⟩
          rw [← ef, List.drop_eq_getElem_cons (List.getElem?_eq_some_iff.mp et).1, (List.getElem?_eq_some_iff.mp et).2, layP, List.append_assoc]
        rintro σ H1 ⟨b, c, acc, f', rfl, s1, hD, done, td, dlen, fa, fb, ef⟩
        rw [shVs_len hs, List.drop_length, layP, List.append_nil] at ef
        refine ⟨_, rfl, _, rfl, by show 2 ≤ sizeLine; decide, fun e ne => ?_⟩
        refine k e _ (s1.trans (Same.new ne)) ?_
        rw [layS, ← ef]
        exact ⟨D, acc, upd_same, hp_new hD ne, td.st ((StT.refl _).new ne)⟩
      · skip
        refine ⟨_, rfl, _, _, _, _, rfl, rfl, SqT.of hq, rfl, ?_⟩
        refine ⟨_, rfl, rfl, _, rfl, ?_⟩
        rw [decide_eq_false (show ¬ V.str (kn true) = V.str (Str.ofString "link") from by decide +kernel)]
        refine iteF ?_
        refine ⟨_, rfl, rfl, _, rfl, ?_⟩
        rw [decide_eq_false (show ¬ V.str (kn true) = V.str (Str.ofString "net") from by decide +kernel)]
        refine iteF ?_
        refine ⟨_, rfl, rfl, _, rfl, ?_⟩
        rw [decide_eq_true (show V.str (kn true) = V.str (Str.ofString "row") from rfl)]
        refine iteT ?_
        refine ⟨_, rfl, _, _, _, _, rfl, rfl, SqT.of hq, rfl, _, rfl, _, rfl, _, rfl, p, vs', ps, l, r, f, rfl, hp, hs, each, (fun z => by rw [z] at nrm; exact absurd nrm.1 (by decide)), s64, f0, f1, fun e H1 s1 lv => ?_⟩
        refine k e _ s1 ?_
        rw [layS]
        exact lv
    | opn =>
      have hq := T.opT H
      rw [ShV] at sv
      obtain rfl : v = .ref T.a_OPEN := sv
      refine ⟨_, rfl, _, _, _, _, rfl, rfl, hq, rfl, ?_⟩
      refine ⟨_, rfl, rfl, _, rfl, ?_⟩
      rw [decide_eq_false (show ¬ V.str (Str.ofString "open") = V.str (Str.ofString "link") from by decide +kernel)]
      refine iteF ?_
      refine ⟨_, rfl, rfl, _, rfl, ?_⟩
      rw [decide_eq_false (show ¬ V.str (Str.ofString "open") = V.str (Str.ofString "net") from by decide +kernel)]
      refine iteF ?_
      refine ⟨_, rfl, rfl, _, rfl, ?_⟩
      rw [decide_eq_false (show ¬ V.str (Str.ofString "open") = V.str (Str.ofString "row") from by decide +kernel)]
      refine iteF ?_
      refine ⟨by show 0 ≤ sizeLine; decide, fun D nD => ?_⟩
      refine ⟨_, rfl, rfl, _, rfl, ?_⟩
      rw [decide_eq_false (show ¬ V.str (Str.ofString "open") = V.str (Str.ofString "bunch") from by decide +kernel)]
      refine iteF ?_
      refine ⟨_, rfl, _, rfl, by show 2 ≤ sizeLine; decide, fun e ne => ?_⟩
      refine k e _ ((Same.new nD).trans (Same.new ne)) ?_
      rw [layS]
      exact ⟨D, [], upd_same, hp_new upd_same ne, .nil⟩
    | shut =>
      have hq := T.shT H
      rw [ShV] at sv
      obtain rfl : v = .ref T.a_SHUT := sv
      refine ⟨_, rfl, _, _, _, _, rfl, rfl, hq, rfl, ?_⟩
      refine ⟨_, rfl, rfl, _, rfl, ?_⟩
      rw [decide_eq_false (show ¬ V.str (Str.ofString "shut") = V.str (Str.ofString "link") from by decide +kernel)]
      refine iteF ?_
      refine ⟨_, rfl, rfl, _, rfl, ?_⟩
      rw [decide_eq_false (show ¬ V.str (Str.ofString "shut") = V.str (Str.ofString "net") from by decide +kernel)]
      refine iteF ?_
      refine ⟨_, rfl, rfl, _, rfl, ?_⟩
      rw [decide_eq_false (show ¬ V.str (Str.ofString "shut") = V.str (Str.ofString "row") from by decide +kernel)]
      refine iteF ?_
      refine ⟨by show 0 ≤ sizeLine; decide, fun D nD => ?_⟩
      refine ⟨_, rfl, rfl, _, rfl, ?_⟩
      rw [decide_eq_false (show ¬ V.str (Str.ofString "shut") = V.str (Str.ofString "bunch") from by decide +kernel)]
      refine iteF ?_
      refine ⟨_, rfl, _, rfl, by show 2 ≤ sizeLine; decide, fun e ne => ?_⟩
      refine k e _ ((Same.new nD).trans (Same.new ne)) ?_
      rw [layS]
      exact ⟨D, [], upd_same, hp_new upd_same ne, .nil⟩
theorem ok_laid_row (T : TX K mg) (d : Nat) (hL : FnR P w K mg base CX0 (2 * d + 3) T.f_laid (spLayB (FR T) d)) : FnOk P w K mg base CX0 (2 * d + 4) T.f_laid_row T.d_laid_row ["parts", "left", "right", "free"] (spLayRB (FR T) d) := by
  refine T.F_laid_row.ok sc_laid_row (fun vs H Q E h => ?_) (fun cdv A out s H vs Q E hr h => ?_)
  · obtain ⟨p, xs, ss, l, r, f, rfl, hp, hs, each, ne, s64, f0, f1, k⟩ := h
    rfl
  · obtain ⟨p, xs, ss, l, r, f, rfl, hp, hs, each, ne, s64, f0, f1, k⟩ := h
    refine ⟨_, (pss_cons (ps_set (i := 4) sc_laid_row.nd rfl (Or.inl rfl) (pe_lst pa_nil))
 (pss_cons (ps_set (i := 5) sc_laid_row.nd rfl (Or.inl rfl) (pv 1))
 (pss_cons (ps_for PassesOwn.never rfl (pi_tup (pe_slice sl_tup (pv 0) po_none (po_some (pe_un un_neg pe_int)))) (pg_name (i := 6) sc_laid_row.nd rfl (Or.inl rfl))
 (pss_cons (ps_set (i := 7) sc_laid_row.nd rfl (Or.inl rfl) (pv 3))
 (pss_cons (ps_asg (pe_callR hL (hr.mono (by omega)) (by rfl) T.m_laid T.F_laid.kp pass0 (pa_cons (pv 6) (pa_cons (pv 5) (pa_cons (pv 7) (pa_cons (pe_op op_add (pv 3) pe_int) pa_nil))))) (pg_tup (by rfl) (pgs_cons (pg_name (i := 8) sc_laid_row.nd rfl (Or.inl rfl)) (pgs_cons (pg_name (i := 3) sc_laid_row.nd rfl (Or.inl rfl)) pgs_nil))))
 (pss_cons (ps_expr (pe_bm PySem.F.plainAttrs_list PySem.F.slot_list_extend PySem.F.type_list_extend mt_extB (pv 4) (pa_cons (pv 8) pa_nil)))
 (pss_one (ps_set (i := 5) sc_laid_row.nd rfl (Or.inl rfl) (pv 7)))))))
 (pss_cons (ps_asg (pe_callR hL (hr.mono (by omega)) (by rfl) T.m_laid T.F_laid.kp pass0 (pa_cons (pe_ix ix_tup (pv 0) (pe_un un_neg pe_int) (fun _ _ => rfl)) (pa_cons (pv 5) (pa_cons (pv 2) (pa_cons (pv 3) pa_nil))))) (pg_tup (by rfl) (pgs_cons (pg_name (i := 8) sc_laid_row.nd rfl (Or.inl rfl)) (pgs_cons (pg_name (i := 3) sc_laid_row.nd rfl (Or.inl rfl)) pgs_nil))))
 (pss_cons (ps_expr (pe_bm PySem.F.plainAttrs_list PySem.F.slot_list_extend PySem.F.type_list_extend mt_extB (pv 4) (pa_cons (pv 8) pa_nil)))
 (pss_one (ps_ret (pe_tup (pa_cons (pv 4) (pa_cons (pv 3) pa_nil)))))))))), ?_⟩
    obtain ⟨t0, tr, e0⟩ : ∃ t0 tr, ss = t0 :: tr := by
      cases ss with
      | nil => exact absurd rfl ne
      | cons a b => exact ⟨a, b, rfl⟩
    have xl := shVs_len hs
    have l1 : 1 ≤ ss.length := by rw [e0]; simp
    have ones : ∀ s ∈ ss, 1 ≤ siz s := fun s hs' => (lay_ok s (each s hs').1.1 (each s hs').2.1 (each s hs').2.2).one
    refine ⟨by show 0 ≤ sizeLine; decide, fun D nD => ?_⟩
    refine ⟨_, rfl, ?_⟩
    have hp1 := hp_new (o := .lst []) hp nD
    refine ⟨_, rfl, _, rfl, ⟨_, rfl, ?_⟩⟩
    refine ⟨p, xs, rfl, SqT.of hp1, (by rw [sIx_m1 (by omega)]; omega), fun e0' ne0 => ?_⟩
    rw [cutV_m1 (by omega)]
    have S0 : Same H (upd (upd H D (.lst [])) e0' (.tup (xs.take (xs.length - 1)))) := (Same.new nD).trans (Same.new ne0)
    have hD0 := hp_new (o := .tup (xs.take (xs.length - 1))) (upd_same (H := H) (a := D) (o := .lst [])) ne0
    have he0 := upd_same (H := upd H D (.lst [])) (a := e0') (o := .tup (xs.take (xs.length - 1)))
    generalize upd (upd H D (.lst [])) e0' (.tup (xs.take (xs.length - 1))) = H0 at S0 hD0 he0 ⊢
    have eD : e0' ≠ D := fun z => by rw [z] at he0; rw [he0] at hD0; cases hD0
    clear ne0 hp1
    refine ⟨e0', rfl, ⟨_, SqT.of he0⟩, ?_⟩
    have tlen : (xs.take (xs.length - 1)).length = ss.length - 1 := by rw [List.length_take, xl]; omega
    refine for_tup (xs := xs.take (xs.length - 1)) (fun i σ H' => ∃ b c m acc f' near, σ = [some (.ref p), some (.int l), some (.int r), some (.int f'), some (.ref D), some (.int near), b, c, m] ∧ (∀ a o, H0 a = some o → a ≠ D → H' a = some o) ∧ H' D = some (.lst acc) ∧ ∃ done, TLs H' acc done ∧ done.length = sizL (ss.take i) ∧ f ≤ f' ∧ f' ≤ f + 3 * ((sizL (ss.take i) : Nat) : Int) ∧ (done ++ (layR (ss.drop i) near r f').1, (layR (ss.drop i) near r f').2) = layR ss l r f) ⟨none, none, none, [], f, l, rfl, fun _ _ e _ => e, hD0, [], .nil, by rw [List.take_zero, sizL]; rfl, Int.le_refl _, by rw [List.take_zero, sizL]; omega, by rw [List.drop_zero, List.nil_append]⟩ (fun i σ H' _ z => by obtain ⟨_, _, _, _, _, _, _, s, _⟩ := z; exact SqT.of (s _ _ he0 eD)) ?_ ?_
    · rintro i y σ H1 hy ⟨b, c, m, acc, f', near, rfl, s1, hD, done, td, dlen, fa, fb, ef⟩
      have il := (List.getElem?_eq_some_iff.mp hy).1
      rw [tlen] at il
      rw [List.getElem?_take] at hy
      rw [if_pos (by omega)] at hy
      obtain ⟨t, et, tv⟩ := shVs_at hs hy
      have tm := List.mem_of_getElem? et
      have tk := take_siz et
      have sp := siz_split ss (i + 1)
      have rest := drop_one (i := i + 1) (by omega) ones
      have o1 := ones t tm
      have SH : Same H H1 := fun a o e => s1 a o (S0 a o e) fun z => by rw [z, nD] at e; cases e
      have up := (lay_ok t (each t tm).1.1 (each t tm).2.1 (each t tm).2.2).up near f' (f' + 1)
      refine ⟨_, rfl, ?_⟩
      refine ⟨_, rfl, _, rfl, _, rfl, _, rfl, _, _, rfl, rfl, _, t, near, f', f' + 1, rfl, tv.st (.same SH), (each t tm).1, by omega, by omega, fun e H2 s2 lv => ?_⟩
      obtain ⟨z, zs, he, hz, tz⟩ := lv
      have hD2 := s2 _ _ hD
      refine ⟨e, _, rfl, SqT.of he, rfl, _, _, rfl, _, _, rfl, rfl, ?_⟩
      have zl := tz.len
      rw [lay_len] at zl
      have al := td.len
      refine ⟨_, rfl, .inl ⟨rfl, _, SqL.of hD2⟩, _, rfl, D, z, acc, zs, rfl, rfl, hD2, .inl hz, by rw [sizeLine_eq]; omega, ?_⟩
      have st : StT H2 (upd H2 D (.lst (acc ++ zs))) := (StT.refl _).mut hD2 (fun _ z => by cases z)
      refine ⟨_, rfl, ?_⟩
      refine ⟨_, _, _, _, _, _, rfl, fun a o e n => by rw [upd_ne n]; exact s2 _ _ (s1 a o e n), upd_same, done ++ (layS t near f' (f' + 1)).1, pair_app ((td.st (.same s2)).st st) (tz.st st), by rw [List.length_append, lay_len, tk, dlen], by omega, by rw [tk]; push_cast; omega, ?_⟩
      obtain ⟨q, eq⟩ : ∃ q, ss[i + 1]? = some q := ⟨_, List.getElem?_eq_getElem (by omega)⟩
      rw [← ef, drop_at et, drop_at eq, layR_two, List.append_assoc]
    rintro σ H1 ⟨b, c, m, acc, f', near, rfl, s1, hD, done, td, dlen, fa, fb, ef⟩
    rw [tlen] at ef dlen fb
    have SH : Same H H1 := fun a o e => s1 a o (S0 a o e) fun z => by rw [z, nD] at e; cases e
    obtain ⟨v, ev⟩ : ∃ v, xs[xs.length - 1]? = some v := ⟨_, List.getElem?_eq_getElem (by omega)⟩
    obtain ⟨t, et, tv⟩ := shVs_at hs ev
    rw [xl] at et
    have tm := List.mem_of_getElem? et
    have tk := take_siz et
    have sp := siz_split ss (ss.length - 1 + 1)
    rw [show ss.length - 1 + 1 = ss.length from by omega] at sp tk
    rw [List.drop_length] at sp
    rw [List.take_length] at tk
    have o1 := ones t tm
    refine ⟨_, rfl, _, rfl, _, _, _, _, rfl, rfl, SqT.of (SH _ _ hp), atI_m1 ev, _, rfl, _, rfl, _, rfl, _, t, near, r, f', rfl, tv.st (.same SH), (each t tm).1, by omega, by omega, fun e H2 s2 lv => ?_⟩
    obtain ⟨z, zs, he, hz, tz⟩ := lv
    have hD2 := s2 _ _ hD
    refine ⟨e, _, rfl, SqT.of he, rfl, _, _, rfl, _, _, rfl, rfl, ?_⟩
    have zl := tz.len
    rw [lay_len] at zl
    have al := td.len
    refine ⟨_, rfl, .inl ⟨rfl, _, SqL.of hD2⟩, _, rfl, D, z, acc, zs, rfl, rfl, hD2, .inl hz, by rw [sizeLine_eq]; omega, ?_⟩
    have st : StT H2 (upd H2 D (.lst (acc ++ zs))) := (StT.refl _).mut hD2 (fun _ z => by cases z)
    refine ⟨_, rfl, _, rfl, by show 2 ≤ sizeLine; decide, fun u nu => ?_⟩
    have HU : Same H (upd H2 D (.lst (acc ++ zs))) := fun a o e => hp_mut (s2 _ _ (SH _ _ e)) fun z => by rw [z, nD] at e; cases e
    refine k u _ (HU.trans (Same.new nu)) ⟨D, acc ++ zs, ?_, hp_new upd_same nu, ?_⟩
    · rw [← ef, upd_same, drop_at et, show ss.length - 1 + 1 = ss.length from by omega, List.drop_length, layR_one]
    · rw [← ef, drop_at et, show ss.length - 1 + 1 = ss.length from by omega, List.drop_length, layR_one]
      exact TLs.st ((StT.refl _).new nu) (pair_app ((td.st (.same s2)).st st) (tz.st st))
theorem laid_all (T : TX K mg) : ∀ d, FnR P w K mg base CX0 (2 * d + 3) T.f_laid (spLayB (FR T) d) ∧ FnR P w K mg base CX0 (2 * d + 4) T.f_laid_row (spLayRB (FR T) d) := fun d => by
  induction d with
  | zero =>
    have h : FnR P w K mg base CX0 (2 * 0 + 3) T.f_laid (spLayB (FR T) 0) := fun A out s H us vs Q E _ _ _ z => by
      obtain ⟨v, s', l, r, f, _, _, ly, _⟩ := z
      exact absurd ly.2.1 (Nat.not_lt_zero _)
    exact ⟨h, rawAll (ok_laid_row T 0 h) (bd_laid_row T.F_laid_row)⟩
  | succ d ih =>
    have h : FnR P w K mg base CX0 (2 * (d + 1) + 3) T.f_laid (spLayB (FR T) (d + 1)) := rawAll (ok_laid T d ih.1 ih.2) (bd_laid T.F_laid)
    exact ⟨h, rawAll (ok_laid_row T (d + 1) h) (bd_laid_row T.F_laid_row)⟩
theorem r_laid (T : TX K mg) : FnR P w K mg base CX0 41 T.f_laid (spLayB (FR T) 19) := (laid_all T 19).1
theorem ok_links_of (T : TX K mg) : FnOk P w K mg base CX0 42 T.f_links_of T.d_links_of ["shape"] (spLinksB (FR T)) := by
  refine T.F_links_of.ok sc_links_of (fun vs H Q E h => ?_) (fun cdv A out s H vs Q E hr h => ?_)
  · obtain ⟨v, s, rfl, sv, ly, k⟩ := h
    rfl
  · obtain ⟨v, s, rfl, sv, ly, k⟩ := h
    refine ⟨_, (pss_cons (ps_if (pt_cmpR op_eq (pe_ix ix_tup (pv 0) pe_int (fun _ _ => rfl)) pe_str (nomark _)) (pss_one (ps_ret (pe_ix ix_tup (pv 0) pe_int (fun _ _ => rfl)))) pss_nil)
 (pss_cons (ps_asg (pe_callR (r_laid T) (hr.mono (by decide)) (by rfl) T.m_laid T.F_laid.kp pass0 (pa_cons (pv 0) (pa_cons pe_int (pa_cons pe_int (pa_cons pe_int pa_nil))))) (pg_tup (by rfl) (pgs_cons (pg_name (i := 1) sc_links_of.nd rfl (Or.inl rfl)) (pgs_cons (pg_name (i := 2) sc_links_of.nd rfl (Or.inl rfl)) pgs_nil))))
 (pss_one (ps_ret (pe_callR (r_ordered_links T) (hr.mono (by decide)) (by rfl) T.m_ordered_links T.F_ordered_links.kp pass0 (pa_cons (pv 1) pa_nil)))))), ?_⟩
    by_cases hn : ∃ ls, s = .net ls
    · obtain ⟨ls, rfl⟩ := hn
      obtain ⟨q, p, vs', rfl, hq, hp, tl⟩ := shv_net_of sv
      refine ⟨_, rfl, _, _, _, _, rfl, rfl, SqT.of hq, rfl, rfl, _, rfl, ?_⟩
      rw [decide_eq_true rfl]
      refine iteT ?_
      exact ⟨_, rfl, _, _, _, _, rfl, rfl, SqT.of hq, rfl, k p H (Same.refl _) ⟨vs', hp, tl⟩⟩
    · have nk : ¬ V.str (kindB s) = V.str (Str.ofString "net") := fun z => by
        rcases kind_cases s (.net []) (V.str.inj z) with ⟨_, _, _, z⟩ | ⟨n, m, e, _⟩ | ⟨_, _, _, _, z⟩ | ⟨_, z⟩ | ⟨_, z⟩
        · cases z
        · exact hn ⟨n, e⟩
        · cases z
        · cases z
        · cases z
      obtain ⟨q, zs, rfl, hq⟩ := shv_head (UN T H) sv
      refine ⟨_, rfl, _, _, _, _, rfl, rfl, hq, atI_nat (j := 0) rfl, rfl, _, rfl, ?_⟩
      rw [decide_eq_false nk]
      refine iteF ?_
      have ll := lay_len s 0 1 2
      refine ⟨_, rfl, _, s, 0, 1, 2, rfl, sv, ly, by decide, by have := ly.2.2; omega, fun e H1 s1 lv => ?_⟩
      obtain ⟨z, zs', he, hz, tz⟩ := lv
      refine ⟨e, _, rfl, SqT.of he, rfl, _, _, rfl, _, _, rfl, rfl, ?_⟩
      refine ⟨_, rfl, _, zs', _, rfl, ⟨z, rfl, .inl (SqL.of hz)⟩, tz, by rw [ll]; exact ly.2.2, fun p H2 s2 lt => ?_⟩
      refine k p H2 (s1.trans s2) ?_
      have el : linksB s = ordL (layS s 0 1 2).1 := by
        cases s with
        | net ls => exact absurd ⟨ls, rfl⟩ hn
        | _ => rfl
      rw [el]
      exact lt
theorem r_links_of (T : TX K mg) : FnR P w K mg base CX0 42 T.f_links_of (spLinksB (FR T)) := rawAll (ok_links_of T) (bd_links_of T.F_links_of)
end
end RR
set_option maxHeartbeats 4000000
namespace RR
open PySem PySem.Spec PyProof.Rows L2
local macro_rules | `(tactic| walk_at "hp") => `(tactic| first | assumption | exact upd_same | (refine hp_new ?_ (by assumption); walk_at "hp") | (refine hp_mut ?_ (by first | assumption | (apply Ne.symm; assumption)); walk_at "hp") | (refine Same.at (by assumption) ?_; walk_at "hp"))
local macro_rules | `(tactic| walk_at "same") => `(tactic| first | exact fun _ _ z => z | assumption | (refine same_new ?_ (by assumption); walk_at "same") | (refine L2.Same.trans ?_ (by assumption); walk_at "same"))
local macro_rules | `(tactic| walk_at "sq") => `(tactic| exact SqL.of (by walk_at "hp"))
local macro_rules | `(tactic| walk_at "sqT") => `(tactic| exact SqT.of (by walk_at "hp"))

open LamX
section
variable {P : Program} {w : World} {K : PySem.W.Frag} {mg : Str → Option Value} {base : Heap}
end
end RR
set_option maxHeartbeats 4000000
namespace RR
open PySem PySem.Spec PyProof.Rows L2
local macro_rules | `(tactic| walk_at "hp") => `(tactic| first | assumption | exact upd_same | (refine hp_new ?_ (by assumption); walk_at "hp") | (refine hp_mut ?_ (by first | assumption | (apply Ne.symm; assumption)); walk_at "hp") | (refine Same.at (by assumption) ?_; walk_at "hp"))
local macro_rules | `(tactic| walk_at "same") => `(tactic| first | exact fun _ _ z => z | assumption | (refine same_new ?_ (by assumption); walk_at "same") | (refine L2.Same.trans ?_ (by assumption); walk_at "same"))
local macro_rules | `(tactic| walk_at "sq") => `(tactic| exact SqL.of (by walk_at "hp"))
local macro_rules | `(tactic| walk_at "sqT") => `(tactic| exact SqT.of (by walk_at "hp"))

open LamX
section
variable {P : Program} {w : World} {K : PySem.W.Frag} {mg : Str → Option Value} {base : Heap}
theorem ok_is_link (T : TX K mg) : FnOk P w K mg base CX0 2 T.f_is_link T.d_is_link ["thing"] (spIsLink K) := by
  refine T.F_is_link.ok sc_is_link (fun vs H Q E h => ?_) (fun cdv A out s H vs Q E hr h => ?_)
  · obtain ⟨v, b, rfl, hb, k⟩ := h
    rfl
  · obtain ⟨v, b, rfl, hb, k⟩ := h
    refine ⟨_, (pss_cons (ps_if (PW.pt (pw_or (pt_not (pt_val (pe_callB call_isi (by rfl) T.b_isinstance (by decide +kernel) (pa_cons (pv 0) (pa_cons (pe_bltn (v := .ty "tuple") (by rfl) T.b_tuple (by decide +kernel) rfl) pa_nil))))) (pw_or (pt_cmpR op_ne (pe_callB call_len_seq (by rfl) T.b_len PySem.boot_len (pa_cons (pv 0) pa_nil)) pe_int (nomark _)) (pw_or1 (pt_not (pt_val (pe_callR (r_is_name T) (hr.mono (by decide)) (by rfl) T.m_is_name T.F_is_name.kp pass0 (pa_cons (pe_ix ix_tup (pv 0) pe_int (fun _ _ => rfl)) pa_nil)))))))) (pss_one (ps_ret pe_bl)) pss_nil)
 (pss_one (ps_ret (pe_callB (cr_all rfl) (by rfl) T.b_all (by decide +kernel) (pa_cons (pe_lc (own := [("joint", 1)]) (g := (gName 1)) (tt := tYes) (by rfl) sc_is_link.nd (pi_tup (pe_slice sl_tup (pv 0) (po_some pe_int) po_none)) (blkOk_by (own := [("joint", 1)]) (N := N_is_link) (sc := defScope s_is_link) (by decide +kernel)) (fun _ _ _ _ _ => (pg_name (i := 1) sc_is_link.nd rfl (Or.inl rfl))) (fun _ _ _ _ _ => pts_nil) (fun _ _ _ _ _ => (pe_and (pe_callR (r_is_int T) (hr.mono (by decide)) (by rfl) T.m_is_int T.F_is_int.kp pass0 (pa_cons (pv 1) pa_nil)) (pe_one (pe_chain op_le op_le pe_int (pv 1) pe_int))))) pa_nil))))), ?_⟩
    have key : (∃ t, TyX K H v t ∧ PySem.W.kitOne K t (.type "tuple") = some false ∧ b = false) ∨ ∃ q xs, v = .ref q ∧ H q = some (.tup xs) ∧ ((xs.length ≠ 3 ∧ b = false) ∨ ∃ a u x, xs = [a, u, x] ∧ ((NotName K H a ∧ b = false) ∨ ((∃ n, NameV a n) ∧ ∃ b1 b2, JV K H u b1 ∧ JV K H x b2 ∧ b = (b1 && b2)))) := by
      rcases hb with ⟨rfl, l, ⟨q, rfl, hq⟩, lok⟩ | ⟨rfl, ⟨t, h1, h2⟩ | ⟨q, xs, rfl, hq, h⟩⟩
      · exact .inr ⟨q, _, rfl, hq, .inr ⟨_, _, _, rfl, .inr ⟨⟨l.1, lok.nm.v⟩, true, true, .inl ⟨rfl, _, rfl, lok.u⟩, .inl ⟨rfl, _, rfl, lok.v⟩, rfl⟩⟩⟩
      · exact .inl ⟨t, h1, h2, rfl⟩
      · refine .inr ⟨q, xs, rfl, hq, ?_⟩
        rcases h with h | ⟨a, u, x, rfl, h | ⟨h, b1, b2, j1, j2, e⟩⟩
        · exact .inl ⟨h, rfl⟩
        · exact .inr ⟨a, u, x, rfl, .inl ⟨h, rfl⟩⟩
        · exact .inr ⟨a, u, x, rfl, .inr ⟨h, b1, b2, j1, j2, e.symm⟩⟩
    clear hb
    rcases key with ⟨t, ty, kt, rfl⟩ | ⟨q, xs, rfl, hq, key⟩
    · refine ⟨_, rfl, _, _, _, _, false, rfl, .ty "tuple", ty, kt, _, rfl, ?_⟩
      refine iteT ?_
      refine iteT ?_
      exact k H (Same.refl _)
    refine ⟨_, rfl, _, _, _, _, true, rfl, .ty "tuple", .base (.tup hq), kit_ty (by decide +kernel), _, rfl, ?_⟩
    refine iteF ?_
    refine ⟨_, rfl, q, xs, rfl, .inr (SqT.of hq), rfl, _, rfl, ?_⟩
    rcases key with ⟨n3, rfl⟩ | ⟨a, u, x, rfl, key⟩
    · rw [decide_eq_false (fun z => n3 (by have := V.int.inj z; omega))]
      refine iteT ?_
      refine iteT ?_
      exact k H (Same.refl _)
    rw [decide_eq_true (show V.int (([a, u, x].length : Nat) : Int) = V.int 3 from rfl)]
    refine iteF ?_
    rcases key with ⟨nn, rfl⟩ | ⟨⟨n, nv⟩, b1, b2, j1, j2, rfl⟩
    · refine ⟨_, rfl, _, _, _, _, rfl, rfl, SqT.of hq, rfl, _, false, rfl, .inr ⟨rfl, nn⟩, _, rfl, ?_⟩
      refine iteT ?_
      exact k H (Same.refl _)
    refine ⟨_, rfl, _, _, _, _, rfl, rfl, SqT.of hq, rfl, _, true, rfl, .inl ⟨rfl, n, nv⟩, _, rfl, ?_⟩
    refine iteF ?_
    refine ⟨_, rfl, _, rfl, q, _, rfl, SqT.of hq, (by show ¬ (HT.sIx 3 0 (some 1) = 0 ∧ (3 : Nat) = 3); decide), fun r nr => ?_⟩
    rw [show cutV [a, u, x] (some 1) none = [u, x] from rfl] at *
    have S0 := Same.new nr (o := .tup [u, x])
    have hr0 := upd_same (H := H) (a := r) (o := .tup [u, x])
    generalize upd H r (.tup [u, x]) = H0 at S0 hr0 ⊢
    refine ⟨r, rfl, ⟨_, SqT.of hr0⟩, fun D nD => ?_⟩
    refine lc_tup (xs := [u, x]) (fun i H' => Same H0 H' ∧ H' D = some (.lst (([b1, b2].take i).map V.bl))) ⟨Same.new nD, upd_same⟩ (fun i H' _ z => SqT.of (z.1 _ _ hr0)) ?_ ?_
    · rintro i y H1 hy ⟨s1, hD⟩
      have hj : ∃ c, [b1, b2][i]? = some c ∧ JV K H y c := by
        match i, hy with
        | 0, hy => cases hy; exact ⟨b1, rfl, j1⟩
        | 1, hy => cases hy; exact ⟨b2, rfl, j2⟩
      obtain ⟨c, hc, jc⟩ := hj
      have fin : ∃ acc, H1 D = some (.lst acc) ∧ acc.length < sizeLine ∧ Same H0 (upd H1 D (.lst (acc ++ [.bl c]))) ∧ upd H1 D (.lst (acc ++ [.bl c])) D = some (.lst (([b1, b2].take (i + 1)).map V.bl)) := by
        refine ⟨_, hD, ?_, same_mut s1 nD, ?_⟩
        · rw [List.length_map, List.length_take, sizeLine_eq]
          show min i 2 < _
          omega
        · rw [upd_same, List.take_add_one, hc, List.map_append]
          rfl
      obtain ⟨acc, f1, f2, f3⟩ := fin
      refine ⟨rfl, ?_⟩
      rcases jc with ⟨rfl, i0, rfl, h0, h9⟩ | ⟨rfl, ⟨i0, rfl, h09⟩ | ii⟩
      · refine ⟨_, rfl, _, true, rfl, .inl ⟨_, rfl, rfl⟩, _, rfl, ?_⟩
        refine iteT ?_
        refine ⟨_, rfl, _, _, rfl, rfl, _, rfl, ?_⟩
        rw [decide_eq_true h0]
        refine iteT ?_
        refine ⟨_, _, rfl, rfl, ?_⟩
        dsimp only
        rw [decide_eq_true h9]
        exact ⟨acc, f1, f2, f3⟩
      · refine ⟨_, rfl, _, true, rfl, .inl ⟨_, rfl, rfl⟩, _, rfl, ?_⟩
        refine iteT ?_
        refine ⟨_, rfl, _, _, rfl, rfl, _, rfl, ?_⟩
        by_cases h0 : 0 ≤ i0
        · rw [decide_eq_true h0]
          refine iteT ?_
          refine ⟨_, _, rfl, rfl, ?_⟩
          dsimp only
          rw [decide_eq_false fun z => h09 ⟨h0, z⟩]
          exact ⟨acc, f1, f2, f3⟩
        · rw [decide_eq_false h0]
          refine iteF ?_
          exact ⟨acc, f1, f2, f3⟩
      · refine ⟨_, rfl, _, false, rfl, ii.same fun t h => tyX_keep (S0.trans s1) h, _, rfl, ?_⟩
        refine iteF ?_
        exact ⟨acc, f1, f2, f3⟩
    rintro H1 ⟨s1, hD⟩
    refine ⟨D, [b1, b2], rfl, SqL.of hD, ?_⟩
    rw [show [b1, b2].all id = (b1 && b2) from by simp]
    exact k _ (S0.trans s1)
theorem r_is_link (T : TX K mg) : FnR P w K mg base CX0 2 T.f_is_link (spIsLink K) := rawAll (ok_is_link T) (bd_is_link T.F_is_link)
theorem ok_Web___init__ (T : TX K mg) : FnOk P w K mg base CX0 43 T.f_Web___init__ T.d_Web___init__ ["self", "shape"] (spBInit T.C_Web T.a_OPEN T.a_SHUT) := by
  refine T.F_Web___init__.ok sc_Web___init__ (fun vs H Q E h => ?_) (fun cdv A out s H vs Q E hr h => ?_)
  · obtain ⟨x, dx, v, s0, rfl, ei, sv, so, sz, k⟩ := h
    rfl
  · obtain ⟨x, dx, v, s0, rfl, ei, sv, so, sz, k⟩ := h
    refine ⟨_, (pss_cons (ps_fld (pv 0) (pv 1) rfl)
 (pss_one (ps_fld (pv 0) (pe_callR (r_links_of T) (hr.mono (by decide)) (by rfl) T.m_links_of T.F_links_of.kp pass0 (pa_cons (pv 1) pa_nil)) rfl))), ?_⟩
    refine ⟨_, rfl, _, rfl, x, T.C_Web, dx, _, rfl, ei, T.vc, T.nShape, (by show 0 < 1000; decide), ?_⟩
    have st1 : StT H (upd H x (.ins T.C_Web dx [("shape", v)])) := (StT.refl _).mut ei (fun _ z => by cases z)
    have e1 := upd_same (H := H) (a := x) (o := .ins T.C_Web dx [("shape", v)])
    have ly : Lay 19 s0 := ⟨so, by have := dep_siz s0 so; omega, by omega⟩
    refine ⟨_, rfl, v, s0, rfl, sv.st (StF.p st1), ly, fun q H' s lt => ?_⟩
    have e2 := s _ _ e1
    refine ⟨_, rfl, x, T.C_Web, dx, _, rfl, e2, T.vc, T.nLaid, (by show 1 < 1000; decide), ?_⟩
    have st2 : StT H' (upd H' x (.ins T.C_Web dx [("shape", v), ("laid_links", .ref q)])) := (StT.refl _).mut e2 (fun _ z => by cases z)
    exact k _ (fun b o e n => hp_mut (s _ _ (hp_mut e n)) n) ⟨⟨dx, v, q, upd_same, (sv.st (StF.p (st1.trans (.same s)))).st (StF.p st2), lt.st st2⟩, so, sz⟩
theorem ok_Web_net (T : TX K mg) : FnOk P w K mg base CX0 46 T.f_Web_net T.d_Web_net ["links"] (spBNet K T.C_Web T.a_OPEN T.a_SHUT) := by
  refine T.F_Web_net.ok sc_Web_net (fun vs H Q E h => ?_) (fun cdv A out s H vs Q E hr h => ?_)
  · obtain ⟨p, xs, ls, rfl, hp, tl, lok, l14, k⟩ := h
    rfl
  · obtain ⟨p, xs, ls, rfl, hp, tl, lok, l14, k⟩ := h
    refine ⟨_, (pss_cons (ps_if (pt_not (pt_val (pe_callB call_isiT (by rfl) T.b_isinstance (by decide +kernel) (pa_cons (pv 0) (pa_cons (pe_tup (pa_cons (pe_bltn (v := .ty "list") (by rfl) T.b_list (by decide +kernel) rfl) (pa_cons (pe_bltn (v := .ty "tuple") (by rfl) T.b_tuple (by decide +kernel) rfl) pa_nil))) pa_nil))))) (pss_one ps_never) pss_nil)
 (pss_cons (ps_if (pt_cmpR op_gt (pe_callB call_len_seq (by rfl) T.b_len PySem.boot_len (pa_cons (pv 0) pa_nil)) (ClX.pe_cval (pe_glob (v := .ref T.C_Web) (by rfl) T.m_Web rfl)) (nomark _)) (pss_one ps_never) pss_nil)
 (pss_cons (ps_for PassesOwn.never rfl (pi_or (pi_enum (by rfl) T.b_enumerate (pa_cons (pv 0) pa_nil)) (pi_enumT (by rfl) T.b_enumerate (pa_cons (pv 0) pa_nil))) (pg_tup (by rfl) (pgs_cons (pg_name (i := 1) sc_Web_net.nd rfl (Or.inl rfl)) (pgs_cons (pg_name (i := 2) sc_Web_net.nd rfl (Or.inl rfl)) pgs_nil)))
 (pss_one (ps_if (pt_not (pt_val (pe_callR (r_is_link T) (hr.mono (by decide)) (by rfl) T.m_is_link T.F_is_link.kp pass0 (pa_cons (pv 2) pa_nil)))) (pss_one ps_never) pss_nil)))
 (pss_one (ps_ret (pe_make T.mk_Web (ok_Web___init__ T) (hr.mono (by decide)) (by rfl) T.m_Web (bd_Web___init__ T.F_Web___init__) .nil pass0 (pa_cons (pe_callR (r_net_shape T) (hr.mono (by decide)) (by rfl) T.m_net_shape T.F_net_shape.kp pass0 (pa_cons (pv 0) pa_nil)) pa_nil))))))), ?_⟩
    have tln := tl.len
    have hsq : ∀ {G : Hp}, Same H G → SqL K G p xs ∨ SqT K G p xs := fun s => hp.imp (fun h => SqL.of (s _ _ h)) (fun h => SqT.of (s _ _ h))
    refine ⟨_, rfl, by show 2 ≤ sizeLine; decide, fun z nz => ?_⟩
    have S0 := Same.new nz (o := .tup [.ty "list", .ty "tuple"])
    have hty : ∃ t, TyX K (upd H z (.tup [.ty "list", .ty "tuple"])) (.ref p) t ∧ PySem.W.kitAny K t [.type "list", .type "tuple"] = some true := by
      rcases hp with hp | hp
      · exact ⟨_, .base (.lst (S0 _ _ hp)), kitAny_lt.1⟩
      · exact ⟨_, .base (.tup (S0 _ _ hp)), kitAny_lt.2⟩
    obtain ⟨t, ty, kt⟩ := hty
    refine ⟨_, z, _, t, _, true, rfl, upd_same, .cons (.ty "list") (.cons (.ty "tuple") .nil), ty, kt, _, rfl, ?_⟩
    refine iteF ?_
    generalize upd H z (.tup [.ty "list", .ty "tuple"]) = H0 at S0 ⊢
    clear ty kt nz
    refine ⟨_, rfl, p, xs, rfl, hsq S0, _, _, _, _, rfl, T.rdW, T.mostW, _, _, rfl, rfl, _, rfl, ?_⟩
    rw [decide_eq_false (show ¬ (14 : Int) < (xs.length : Nat) by omega)]
    refine iteF ?_
    refine seq_enum (xs := xs) rfl (hsq S0) fun J G W gS => ?_
    refine for_it W (fun i σ H' => ∃ a b, σ = [some (.ref p), a, b] ∧ Same H0 H') ⟨none, none, rfl, Same.refl _⟩ (fun i σ H' _ z => by obtain ⟨_, _, _, s⟩ := z; exact gS _ s) ?_ ?_
    · rintro i y σ H1 H2 hi ⟨a, b, rfl, s1⟩ ⟨T2, x1, y1, rfl, nT, rfl, e1, e2⟩
      cases e1
      obtain ⟨l, el, q, rfl, hq⟩ := pair_at tl e2
      have S1 := (S0.trans s1).trans (Same.new nT (o := .tup [.int (i : Nat), .ref q]))
      refine ⟨T2, _, rfl, SqT.of upd_same, rfl, _, _, rfl, _, _, rfl, rfl, ?_⟩
      refine ⟨_, rfl, _, true, rfl, .inl ⟨rfl, l, ⟨q, rfl, S1 _ _ hq⟩, lok l (List.mem_of_getElem? el)⟩, fun H3 s3 => ?_⟩
      refine ⟨_, rfl, ?_⟩
      refine iteF ?_
      exact ⟨_, _, rfl, (s1.trans (Same.new nT)).trans s3⟩
    rintro σ H1 ⟨a, b, rfl, s1⟩
    have S1 := S0.trans s1
    refine ⟨_, rfl, _, xs, ls, rfl, ⟨p, rfl, hsq S1⟩, tl.st (.same S1), by omega, fun u H2 s2 sv => ?_⟩
    have S2 := S1.trans s2
    refine fun x dx nx nd ne => ?_
    have sI : Same _ (upd (upd _ dx (.own x)) x (.ins T.C_Web dx [])) := (Same.new nd).trans (Same.new ((upd_ne ne.symm).trans nx))
    refine ⟨x, dx, _, _, rfl, upd_same, sv.st (.same sI), netB_nrm lok, (by rw [ordL_size]; exact l14), fun H9 kp W => ⟨rfl, ?_⟩⟩
    exact k x H9 (S2.trans (fun b o e => kp b o (sI b o e) (ne_of_none e nx))) W
theorem r_Web_net (T : TX K mg) : FnR P w K mg base CX0 46 T.f_Web_net (spBNet K T.C_Web T.a_OPEN T.a_SHUT) := rawAll (ok_Web_net T) (bd_Web_net T.F_Web_net)
theorem ok_Web_always (T : TX K mg) : FnOk P w K mg base CX0 46 T.f_Web_always T.d_Web_always [] (spBUnit T.C_Web T.a_OPEN T.a_SHUT .opn) := by
  refine T.F_Web_always.ok sc_Web_always (fun vs H Q E h => ?_) (fun cdv A out s H vs Q E hr h => ?_)
  · obtain ⟨rfl, k⟩ := h
    rfl
  · obtain ⟨rfl, k⟩ := h
    refine ⟨_, (pss_one (ps_ret (pe_make T.mk_Web (ok_Web___init__ T) (hr.mono (by decide)) (by rfl) T.m_Web (bd_Web___init__ T.F_Web___init__) .nil pass0 (pa_cons (pe_glob (v := .ref T.a_OPEN) (by rfl) T.m_OPEN rfl) pa_nil)))), ?_⟩
    refine fun x dx nx nd ne => ?_
    have sI : Same _ (upd (upd _ dx (.own x)) x (.ins T.C_Web dx [])) := (Same.new nd).trans (Same.new ((upd_ne ne.symm).trans nx))
    refine ⟨x, dx, _, _, rfl, upd_same, shv_opn, trivial, (by rw [siz]; decide), fun H9 kp W => ⟨rfl, ?_⟩⟩
    exact k x H9 ((Same.refl _).trans (fun b o e => kp b o (sI b o e) (ne_of_none e nx))) W
theorem r_Web_always (T : TX K mg) : FnR P w K mg base CX0 46 T.f_Web_always (spBUnit T.C_Web T.a_OPEN T.a_SHUT .opn) := rawAll (ok_Web_always T) (bd_Web_always T.F_Web_always)
end
end RR
set_option maxHeartbeats 4000000
namespace RR
open PySem PySem.Spec PyProof.Rows L2
open LamX
/-! ### a shape's text tells the shape -/
abbrev cs (x : Str) : List Nat := x.cps.toList
theorem cs_app (x y : Str) : cs (x ++ y) = cs x ++ cs y := app_list x y
theorem join_one (y x : Str) : Txt.join y [x] = x := by
  unfold Txt.join
  rw [StrLaws.glued_eq_join]
  rfl
theorem join_more (y x z : Str) (r : List Str) : cs (Txt.join y (x :: z :: r)) = cs x ++ (cs y ++ cs (Txt.join y (z :: r))) := by
  have e : Txt.join y (x :: z :: r) = x ++ y ++ Txt.join y (z :: r) := by
    unfold Txt.join
    rw [StrLaws.glued_eq_join, StrLaws.glued_eq_join]
    rfl
  rw [e, cs_app, cs_app, List.append_assoc]
def digC (c : Nat) : Bool := decide (48 ≤ c ∧ c ≤ 57)
def lowC (c : Nat) : Bool := decide (97 ≤ c ∧ c ≤ 122)
def digVal (l : List Nat) : Nat := l.foldl (fun a c => a * 10 + (c - 48)) 0
/-- what may stand behind a link of a net -/
def NetEnd (x : List Nat) : Prop := ∃ c r, x = c :: r ∧ (c = 32 ∨ c = 93)
/-- what may stand behind a part -/
def PartEnd (x : List Nat) : Prop := x = [] ∨ ∃ c r, x = c :: r ∧ (c = 32 ∨ c = 41)
def Cuts (s : Sh) : Prop := ∀ t x y, Nrm t → t ≠ .opn → t ≠ .shut → PartEnd x → PartEnd y → cs (shown s) ++ x = cs (shown t) ++ y → s = t ∧ x = y
/-! ### what the laws tell webs apart by: kind and text -/
def keyS (s : Sh) : Str := kindB s ++ Str.ofString " " ++ shown s
end RR
set_option maxHeartbeats 4000000
namespace RR
open PySem PySem.Spec PyProof.Rows L2
local macro_rules | `(tactic| walk_at "hp") => `(tactic| first | assumption | exact upd_same | (refine hp_new ?_ (by assumption); walk_at "hp") | (refine hp_mut ?_ (by first | assumption | (apply Ne.symm; assumption)); walk_at "hp") | (refine Same.at (by assumption) ?_; walk_at "hp"))
local macro_rules | `(tactic| walk_at "same") => `(tactic| first | exact fun _ _ z => z | assumption | (refine same_new ?_ (by assumption); walk_at "same") | (refine L2.Same.trans ?_ (by assumption); walk_at "same"))
local macro_rules | `(tactic| walk_at "sq") => `(tactic| exact SqL.of (by walk_at "hp"))
local macro_rules | `(tactic| walk_at "sqT") => `(tactic| exact SqT.of (by walk_at "hp"))

open LamX
section
variable {P : Program} {w : World} {K : PySem.W.Frag} {mg : Str → Option Value} {base : Heap}
theorem ok_Web_kind (T : TX K mg) : FnOk P w K mg base CX0 1 T.f_Web_kind T.d_Web_kind ["self"] (spBKind T.C_Web T.a_OPEN T.a_SHUT) := by
  refine T.F_Web_kind.ok sc_Web_kind (fun vs H Q E h => ?_) (fun cdv A out s H vs Q E hr h => ?_)
  · obtain ⟨x, s0, rfl, W, k⟩ := h
    rfl
  · obtain ⟨x, s0, rfl, W, k⟩ := h
    refine ⟨_, (pss_one (ps_ret (pe_ix ix_tup (pe_fld (pv 0) rfl) pe_int (fun _ _ => rfl)))), ?_⟩
    obtain ⟨dx, v, q, eh, sv, lt⟩ := id W.at_
    obtain ⟨z, zs, rfl, hz⟩ := shv_head (UN T H) sv
    exact ⟨_, rfl, x, T.C_Web, dx, _, _, rfl, eh, T.vc, T.nShape, rfl, _, _, _, _, rfl, rfl, hz, atI_nat (j := 0) rfl, k⟩
theorem ok_Web_links (T : TX K mg) : FnOk P w K mg base CX0 1 T.f_Web_links T.d_Web_links ["self"] (spBLinks T.C_Web T.a_OPEN T.a_SHUT) := by
  refine T.F_Web_links.ok sc_Web_links (fun vs H Q E h => ?_) (fun cdv A out s H vs Q E hr h => ?_)
  · obtain ⟨x, s0, rfl, W, k⟩ := h
    rfl
  · obtain ⟨x, s0, rfl, W, k⟩ := h
    refine ⟨_, (pss_one (ps_ret (pe_fld (pv 0) rfl))), ?_⟩
    obtain ⟨dx, v, q, eh, sv, lt⟩ := id W.at_
    exact ⟨_, rfl, x, T.C_Web, dx, _, _, rfl, eh, T.vc, T.nLaid, rfl, k q lt⟩
theorem ok_Web_names (T : TX K mg) : FnOk P w K mg base CX0 1 T.f_Web_names T.d_Web_names ["self"] (spBNames T.C_Web T.a_OPEN T.a_SHUT) := by
  refine T.F_Web_names.ok sc_Web_names (fun vs H Q E h => ?_) (fun cdv A out s H vs Q E hr h => ?_)
  · obtain ⟨x, s0, rfl, W, k⟩ := h
    rfl
  · obtain ⟨x, s0, rfl, W, k⟩ := h
    refine ⟨_, (pss_one (ps_ret (pe_callTy call_tuple_of (by rfl) T.b_tuple (by decide +kernel) (pa_cons (pe_callB (r := rSortKT P w) (cr_sortKT rfl (hu2_of hr)) (by rfl) T.b_sorted (by decide +kernel) (pa_cons (pe_callTy (r := rSetK K P w) (cr_setK rfl) (by rfl) T.b_set (by decide +kernel) (pa_cons (pe_lc (own := [("link", 1)]) (g := (gName 1)) (tt := tYes) (by rfl) sc_Web_names.nd (pi_tup (pe_fld (pv 0) rfl)) (blkOk_by (own := [("link", 1)]) (N := N_Web_names) (sc := defScope s_Web_names) (by decide +kernel)) (fun _ _ _ _ _ => (pg_name (i := 1) sc_Web_names.nd rfl (Or.inl rfl))) (fun _ _ _ _ _ => pts_nil) (fun _ _ _ _ _ => (pe_ix (r := rIxT K) ix_tup (pv 1) pe_int (fun _ _ => rfl)))) pa_nil)) pa_nil)) pa_nil)))), ?_⟩
    obtain ⟨dx, v, q, eh, sv, lt⟩ := id W.at_
    obtain ⟨zs, hq, tl⟩ := id lt
    have lw := W.links.2
    have tln := tl.len
    rw [← linksB_names] at k
    generalize hls : linksB s0 = ls at tl lw tln k
    refine ⟨_, rfl, x, T.C_Web, dx, _, _, rfl, eh, T.vc, T.nLaid, rfl, q, rfl, ⟨_, SqT.of hq⟩, fun D nD => ?_⟩
    refine lc_tup (xs := zs) (fun i H' => Same H H' ∧ H' D = some (.lst ((ls.take i).map fun l => V.str l.1))) ⟨Same.new nD, by rw [List.take_zero]; exact upd_same⟩ (fun i H' _ z => SqT.of (z.1 _ _ hq)) ?_ ?_
    · rintro i y H1 hy ⟨s1, hD⟩
      obtain ⟨l, el, r, rfl, hr0⟩ := pair_at tl hy
      refine ⟨rfl, _, rfl, _, _, _, _, rfl, rfl, SqT.of (s1 _ _ hr0), rfl, _, hD, by rw [List.length_map, List.length_take, sizeLine_eq]; omega, same_mut s1 nD, ?_⟩
      rw [upd_same, List.take_add_one, el, List.map_append]
      rfl
    rintro H1 ⟨s1, hD⟩
    rw [tln, List.take_length] at hD
    have ev : (ls.map fun l : Lk => V.str l.1) = ((ls.map fun l : Lk => l.1).map (Sum.inr : Str → Key)).map kV := by
      simp only [List.map_map]
      rfl
    refine ⟨D, _, rfl, SqL.of (hD.trans (by rw [ev])), by simp only [List.length_map]; omega, fun a ks na m => ?_⟩
    refine ⟨a, ks, _, rfl, upd_same, m, by simp only [List.length_map]; omega, fun p np => ?_⟩
    refine ⟨p, _, rfl, .inl ⟨SqL.of upd_same, fun r nr => ?_⟩⟩
    exact k r _ (((s1.trans (Same.new na)).trans (Same.new np)).trans (Same.new nr)) upd_same
end
end RR
set_option maxHeartbeats 4000000
namespace RR
open PySem PySem.Spec PyProof.Rows L2
open LamX
/-! ### walks: the links of joints met one after another, none twice -/
/-- the places whose link ends at j, with the other end -/
def stepsE (es : Edg) (j : Int) : List (Nat × Int) := es.zipIdx.filterMap fun p => if j = p.1.1 ∨ j = p.1.2 then some (p.2, if p.1.1 = j then p.1.2 else p.1.1) else none
/-- a walk from j to 1 that avoids av -/
inductive Wlk (es : Edg) : List Int → Int → List Nat → Prop
  | one {av : List Int} {j : Int} {i : Nat} : (i, 1) ∈ stepsE es j → Wlk es av j [i]
  | more {av : List Int} {j k : Int} {i : Nat} {ws : List Nat} : (i, k) ∈ stepsE es j → k ≠ 1 → k ∉ av ++ [j] → Wlk es (av ++ [j]) k ws → Wlk es av j (i :: ws)
/-- links free of the joints av -/
def fre (es : Edg) (av : List Int) : Edg := es.filter fun p => !decide (p.1 ∈ av) && !decide (p.2 ∈ av)
def nxtE (es : Edg) (av : List Int) (j : Int) : List (Nat × Int) := (stepsE es j).filter fun e => decide (e.2 ≠ 1 ∧ e.2 ∉ av ++ [j])
def donE (es : Edg) (j : Int) : List (Nat × Int) := (stepsE es j).filter fun e => decide (e.2 = 1)
/-- all walks -/
def pthE (es : Edg) : Nat → List Int → Int → List (List Nat)
  | 0, _, _ => []
  | f + 1, av, j => (donE es j).map (fun e => [e.1]) ++ (nxtE es av j).flatMap fun e => (pthE es f (av ++ [j]) e.2).map (e.1 :: ·)
/-- how many begun walks -/
def nodE (es : Edg) : Nat → List Int → Int → Nat
  | 0, _, _ => 1
  | f + 1, av, j => 1 + ((nxtE es av j).map fun e => nodE es f (av ++ [j]) e.2).sum
end RR
set_option maxHeartbeats 4000000
namespace RR
open PySem PySem.Spec PyProof.Rows L2
open LamX
/-! ### walks are the least sets of links that join -/
/-- the links at some places -/
def pick (es : Edg) (S : Nat → Bool) : Edg := (es.zipIdx.filter fun p => S p.2).map fun p => p.1
/-- a set of places that joins 0 and 1, and none less does -/
structure Least (es : Edg) (S : Nat → Bool) : Prop where
  yes : Con (pick es S) 0 1
  no : ∀ i, i < es.length → S i = true → ¬ Con (pick es fun x => S x && decide (x ≠ i)) 0 1
end RR
set_option maxHeartbeats 4000000
namespace RR
open PySem PySem.Spec PyProof.Rows L2
open LamX
/-! ### how many walks -/
def PB (f : Nat) : Nat := [1, 1, 2, 3, 4, 6, 9, 12, 18, 27, 36, 54, 81, 108, 162].getD f 162
/-- all walks of a web's links -/
def wlkE (es : Edg) : List (List Nat) := pthE es (es.length + 1) [] 0
/-! ### begun walks, as the program keeps them -/
/-- a begun walk: its places, the joints passed but the last, the last -/
structure Bg where
  w : List Nat
  av : List Int
  j : Int
structure BgOk (es : Edg) (b : Bg) : Prop where
  nj : b.j ∉ b.av
  n1 : (1 : Int) ∉ b.av ++ [b.j]
  len : b.w.length + (fre es b.av).length ≤ es.length
  pl : b.av.length = b.w.length
/-- the walks behind it -/
def restB (es : Edg) (b : Bg) : List (List Nat) := (pthE es (es.length + 1) b.av b.j).map (b.w ++ ·)
def costB (es : Edg) (b : Bg) : Nat := nodE es (es.length + 1) b.av b.j
def kidB (b : Bg) (e : Nat × Int) : Bg := ⟨b.w ++ [e.1], b.av ++ [b.j], e.2⟩
/-! ### what the program's defs promise -/
/-- pairs of a place and a joint -/
def PrA (H : Hp) (v : V) (e : Nat × Int) : Prop := ∃ q, v = .ref q ∧ H q = some (.tup [.int (e.1 : Nat), .int e.2])
def StepsAt (H : Hp) (p : Addr) (l : List (Nat × Int)) : Prop := ∃ ts, H p = some (.lst ts) ∧ Paired (PrA H) ts l
/-- steps_from(links, joint) -/
def spSteps (K : PySem.W.Frag) : Sp := fun vs H Q _ => ∃ q xs ls j, vs = [.ref q, .int j] ∧ H q = some (.tup xs) ∧ TLs H xs ls ∧ ls.length < 64 ∧ ∀ p H', Same H H' → StepsAt H' p (stepsE (allE ls) j) → Q (.ref p) H'
def keyW (ws : List Nat) : List Key := ws.map fun i => .inl ((i : Nat) : Int)
/-- the rows of walks_of(web) -/
def WlkOf (s : Sh) (r : List Key) : Prop := (s = .opn ∧ r = []) ∨ (s ≠ .opn ∧ ∃ ws, Wlk (allE (linksB s)) [] 0 ws ∧ r = keyW ws)
def spWalks (K : PySem.W.Frag) (C aO aS : Addr) : Sp := fun vs H Q _ => ∃ x s, vs = [.ref x] ∧ WebB C aO aS H x s ∧ (wlkE (allE (linksB s))).length < 77 ∧ ∀ p (M : List (Addr × List Key)) H', Same H H' → H' p = some (.lst (M.map fun e => V.ref e.1)) → (∀ e ∈ M, SqT K H' e.1 (e.2.map kV)) → M.length < 77 →
  (∀ r, r ∈ (M.map fun e => e.2) ↔ WlkOf s r) → Q (.ref p) H'
/-- count_of(web, places) -/
def spCount (K : PySem.W.Frag) (C aO aS : Addr) : Sp := fun vs H Q _ => ∃ x s v is, vs = [.ref x, v] ∧ WebB C aO aS H x s ∧ SqV K H v ((is : List Nat).map fun i => V.int ((i : Nat) : Int)) ∧ (∀ i ∈ is, i < (linksB s).length) ∧ is.length < 64 ∧
  ∀ q H', Same H H' → H' q = some (.tup ((srtS (is.map fun i => ((linksB s).getD i default).1)).map V.str)) → Q (.ref q) H'
/-- is_never_worse(one, other) -/
def spNever (C aO aS : Addr) : Sp := fun vs H Q _ => ∃ x y s t, vs = [.ref x, .ref y] ∧ WebB C aO aS H x s ∧ WebB C aO aS H y t ∧ (wlkE (allE (linksB s))).length < 77 ∧ ∀ b H', Same H H' → (b = true ↔ ∀ ns, joinsB ns s → joinsB ns t) → Q (.bl b) H'
def spBJoints (C aO aS : Addr) : Sp := fun vs H Q _ => ∃ x s, vs = [.ref x] ∧ WebB C aO aS H x s ∧ ∀ p H', Same H H' → H' p = some (.tup ((jointsL (linksB s)).map V.int)) → Q (.ref p) H'
theorem inV_intsX {js : List Int} {j : Int} : inV (.int j) (js.map V.int) = decide (j ∈ js) := by
  rw [Bool.eq_iff_iff, decide_eq_true_eq]
  unfold inV
  rw [List.any_map, List.any_eq_true]
  constructor
  · rintro ⟨y, hy, e⟩
    have e' : decide (y = j) = true := e
    rw [← of_decide_eq_true e']
    exact hy
  · intro hj
    exact ⟨j, hj, (show decide (j = j) = true from decide_eq_true rfl)⟩
theorem flat_intsX : ∀ js : List Int, (js.map V.int).all flatV = true
  | [] => rfl
  | _ :: js => by rw [List.map_cons, List.all_cons, flat_intsX js]; rfl
/-! ### the order by walks is the order by names that join -/
/-- the names of a walk -/
def namW (ls : List Lk) (ws : List Nat) : List Str := ws.map fun i => (ls.getD i default).1
end RR
set_option maxHeartbeats 4000000
namespace RR
open PySem PySem.Spec PyProof.Rows L2
open LamX
/-! ### t + u, t perhaps empty -/
section
variable {prog : Program} {w : World} {A : Around} {E : Value → Shared → Prop} {s : Shared}
theorem cat_tup0 {t b : Addr} {ws : List Value} {Q : Value → Shared → Prop} (ht : IsTup s.heap t ([] : List Value).toArray) (hb : IsTup s.heap b ws.toArray) (h : Q (.ref b) s) : wpAny (model prog w) A (binaryOp .Add (.ref t) (.ref b)) Q E s := by
  obtain ⟨⟨cls, dd, data, sl⟩, ho, hc, n, hd⟩ := id ht
  obtain ⟨⟨cls2, dd2, data2, sl2⟩, ho2, hc2, n2, hd2⟩ := id hb
  simp only at hc hd hc2 hd2
  subst hc hd hc2 hd2
  exact concat_meets ⟨_, ho, rfl⟩ ⟨_, ho2, rfl⟩ noFill_tuple_add seq_tuple_add PySem.F.slot_tuple_add PySem.F.entry_tuple_add (PySem.F.args_tuple_add_2 _ _)
    (tuple_addW0 t b ([] : List Value).toArray ws.toArray n n2 dd dd2 sl sl2 rfl) ⟨ho, ho2, h⟩
end
def rCatU (K : PySem.W.Frag) : R2 := fun x y H Q => ∃ a b xs ys, x = .ref a ∧ y = .ref b ∧ SqT K H a xs ∧ H b = some (.tup ys) ∧ ys ≠ [] ∧ xs.length + ys.length ≤ sizeLine ∧ ∀ p H', Same H H' → H' p = some (.tup (xs ++ ys)) → Q (.ref p) H'
/-! ### begun walks in the heap -/
def intsN (ws : List Nat) : List V := ws.map fun i => V.int ((i : Nat) : Int)
def WkA (H : Hp) (v : V) (ws : List Nat) : Prop := ∃ q, v = .ref q ∧ H q = some (.tup (intsN ws))
def BgA (H : Hp) (v : V) (b : Bg) : Prop := ∃ q a c, v = .ref q ∧ H q = some (.tup [.ref a, .ref c]) ∧ H a = some (.tup (intsN b.w)) ∧ H c = some (.tup ((b.av ++ [b.j]).map V.int))
/-- the steps of each joint, kept by the joint -/
def StepsOk (H : Hp) (kvs : List (Key × V)) (es : Edg) (js : List Int) : Prop := ∀ j ∈ js, ∃ p, valV kvs (.inl j) = some (.ref p) ∧ StepsAt H p (stepsE es j)
end RR
set_option maxHeartbeats 4000000
namespace RR
open PySem PySem.Spec PyProof.Rows L2
section
variable {X : Cx}
end
end RR
namespace RR
open PySem PySem.Spec PyProof.Rows L2
open LamX
end RR
namespace RR
open PySem PySem.Spec PyProof.Rows L2
open LamX
/-- where the loop stands -/
structure WkSt (H0 : Hp) (es : Edg) (js : List Int) (F B : Addr) (H' : Hp) (fs : List (List Nat)) (bs : List Bg) : Prop where
  same : Same H0 H'
  fnd : ∃ tf, H' F = some (.lst tf) ∧ Paired (WkA H') tf fs
  beg : ∃ tb, H' B = some (.lst tb) ∧ Paired (BgA H') tb bs
  ok : ∀ b ∈ bs, BgOk es b ∧ b.j ∈ js
  perm : (fs ++ bs.flatMap (restB es)).Perm (wlkE es)
/-- the steps of the popped one, some of them done -/
structure FrSt (H0 : Hp) (es : Edg) (js : List Int) (F B : Addr) (b : Bg) (sts : List (Nat × Int)) (fs0 : List (List Nat)) (bs0 : List Bg) (H' : Hp) : Prop where
  same : Same H0 H'
  fnd : ∃ tf, H' F = some (.lst tf) ∧ Paired (WkA H') tf (fs0 ++ (sts.filter fun e => decide (e.2 = 1)).map fun e => b.w ++ [e.1])
  beg : ∃ tb, H' B = some (.lst tb) ∧ Paired (BgA H') tb (bs0 ++ (sts.filter fun e => decide (e.2 ≠ 1 ∧ e.2 ∉ b.av ++ [b.j])).map (kidB b))
end RR
namespace RR
open PySem PySem.Spec PyProof.Rows L2
open LamX
end RR
namespace RR
open PySem PySem.Spec PyProof.Rows L2
open LamX
section
variable {H0 H6 H8 : Hp} {es : Edg} {js : List Int} {F B : Addr} {b : Bg} {sts : List (Nat × Int)} {fs : List (List Nat)} {bs : List Bg} {e : Nat × Int}
end
end RR
namespace RR
open PySem PySem.Spec PyProof.Rows L2
open LamX
theorem joinsB_mem {ns ms : List Str} {s : Sh} (h : ∀ n, n ∈ ns ↔ n ∈ ms) : joinsB ns s ↔ joinsB ms s := by
  constructor
  · rintro (z | z)
    · exact .inl z
    · exact .inr (con_names (fun n hn => (h n).mp hn) z)
  · rintro (z | z)
    · exact .inl z
    · exact .inr (con_names (fun n hn => (h n).mpr hn) z)
open Classical in
/-- does the walk's count join the other -/
noncomputable def jnsE (ls : List Lk) (t : Sh) (e : Addr × List Key) : Bool := decide (∀ is : List Nat, e.2 = keyW is → joinsB (namW ls is) t)
end RR
namespace RR
open PySem PySem.Spec PyProof.Rows L2
open LamX
/-- alike(one, other) -/
def spAlike (C aO aS : Addr) : Sp := fun vs H Q _ => ∃ x y s t, vs = [.ref x, .ref y] ∧ WebB C aO aS H x s ∧ WebB C aO aS H y t ∧ (wlkE (allE (linksB s))).length < 77 ∧ (wlkE (allE (linksB t))).length < 77 ∧ ∀ b H', Same H H' → (b = true ↔ ∀ ns, joinsB ns s ↔ joinsB ns t) → Q (.bl b) H'
end RR
set_option maxHeartbeats 4000000
namespace RR
open PySem PySem.Spec PyProof.Rows L2
open LamX
/-! ### what law k56 (and its like) draws: names mixed, trees of names -/
theorem map_eraseX {α β : Type} (f : α → β) : ∀ (l : List α) (k : Nat), (l.map f).eraseIdx k = (l.eraseIdx k).map f
  | [], _ => by simp
  | x :: l, 0 => by simp
  | x :: l, k + 1 => by simp [map_eraseX f l k]
def spMixT : Sp := fun vs H Q _ => ∃ p c ns a g l ws, vs = [.ref p, .ref l] ∧ PenAt H p c ns a g ∧ H l = some (.lst ((ws : List Str).map V.str)) ∧ l ≠ p ∧ ws.length ≤ 10 ∧ a ≤ 95000 ∧
  ∀ q us a' g' H', H' p = some (pen c a' g') → Keep p H H' → H q = none → H' q = some (.lst ((us : List Str).map V.str)) → us.Perm ws → a ≤ a' → a' ≤ a + 10 → Q (.ref q) H'
end RR
namespace RR
open PySem PySem.Spec PyProof.Rows L2
open LamX
/-- a tree of names: a row or a bunch of two -/
inductive Tr where
  | leaf (n : Str)
  | two (r : Bool) (a b : Tr)
/-- its names, in their order -/
def Tr.nms : Tr → List Str
  | .leaf n => [n]
  | .two _ a b => a.nms ++ b.nms
def Tr.dep : Tr → Nat
  | .leaf _ => 0
  | .two _ a b => max a.dep b.dep + 1
def TrV (H : Hp) : Tr → V → Prop
  | .leaf n, v => ∃ q, v = .ref q ∧ H q = some (.tup [.str "link", .str n])
  | .two r a b, v => ∃ q x y, v = .ref q ∧ H q = some (.tup [.str (kn r), x, y]) ∧ TrV H a x ∧ TrV H b y
theorem TrV.st {H H' : Hp} (s : StT H H') : ∀ {t : Tr} {v : V}, TrV H t v → TrV H' t v
  | .leaf n, _, ⟨q, e, h⟩ => ⟨q, e, s _ _ h⟩
  | .two r a b, _, ⟨q, x, y, e, h, h1, h2⟩ => ⟨q, x, y, e, s _ _ h, TrV.st s h1, TrV.st s h2⟩
theorem Tr.one : ∀ t : Tr, 1 ≤ t.nms.length
  | .leaf _ => Nat.le_refl _
  | .two _ a b => by
    have := Tr.one a
    rw [Tr.nms, List.length_append]
    omega
theorem Tr.dep_lt : ∀ t : Tr, t.dep < t.nms.length
  | .leaf _ => Nat.lt_succ_self _
  | .two _ a b => by
    have := Tr.dep_lt a
    have := Tr.dep_lt b
    have := Tr.one a
    have := Tr.one b
    rw [Tr.dep, Tr.nms, List.length_append]
    omega
def nmsTs (ts : List Tr) : List Str := ts.flatMap Tr.nms
def spTiedT : Sp := fun vs H Q _ => ∃ p c ns a g l ws, vs = [.ref p, .ref l] ∧ PenAt H p c ns a g ∧ H l = some (.lst ((ws : List Str).map V.str)) ∧ l ≠ p ∧ 1 ≤ ws.length ∧ ws.length ≤ 10 ∧ a ≤ 95000 ∧
  ∀ v t a' g' H', H' p = some (pen c a' g') → Keep p H H' → TrV H' t v → t.nms = ws → a ≤ a' → a' ≤ a + 20 → Q v H'
theorem nmsTs_leaf (ws : List Str) : nmsTs (ws.map Tr.leaf) = ws := by
  unfold nmsTs
  rw [List.flatMap_map]
  show ws.flatMap (fun n => [n]) = ws
  induction ws with
  | nil => rfl
  | cons w ws ih => rw [List.flatMap_cons, ih]; rfl
theorem nmsTs_join {ts : List Tr} {k : Nat} {a b : Tr} {r : Bool} (ha : ts[k]? = some a) (hb : ts[k + 1]? = some b) : nmsTs (ts.take k ++ [.two r a b] ++ ts.drop (k + 2)) = nmsTs ts := by
  have e : ts = ts.take k ++ (a :: b :: ts.drop (k + 2)) := by
    have ka := (List.getElem?_eq_some_iff.mp ha)
    have kb := (List.getElem?_eq_some_iff.mp hb)
    obtain ⟨h1, e1⟩ := ka
    obtain ⟨h2, e2⟩ := kb
    have d1 : ts.drop k = a :: ts.drop (k + 1) := by rw [List.drop_eq_getElem_cons h1, e1]
    have d2 : ts.drop (k + 1) = b :: ts.drop (k + 2) := by rw [List.drop_eq_getElem_cons h2, e2]
    rw [← d2, ← d1, List.take_append_drop]
  generalize ht : ts.take k = x at e ⊢
  generalize hd : ts.drop (k + 2) = y at e ⊢
  rw [e]
  unfold nmsTs
  simp [Tr.nms]
theorem tsum_len : ∀ ts : List Tr, ts.length ≤ (nmsTs ts).length
  | [] => Nat.le_refl _
  | t :: ts => by
    have := tsum_len ts
    have := Tr.one t
    unfold nmsTs at this ⊢
    rw [List.flatMap_cons, List.length_append, List.length_cons]
    unfold nmsTs at *
    omega
end RR
namespace RR
open PySem PySem.Spec PyProof.Rows L2
open LamX
/-- _law_laid(tree, u, v, first), trees of depth below d -/
def spLaidT (d : Nat) : Sp := fun vs H Q _ => ∃ x t u v f, vs = [x, .int u, .int v, .int f] ∧ TrV H t x ∧ t.dep < d ∧ (∀ n ∈ t.nms, Nm n) ∧ 0 ≤ u ∧ u ≤ 99 ∧ 0 ≤ v ∧ v ≤ 99 ∧ 0 ≤ f ∧ f + t.nms.length ≤ 90 ∧
  ∀ q l f' xs ls H', Same H H' → H q = none → H l = none → H' q = some (.lst [.ref l, .int f']) → H' l = some (.lst xs) → TLs H' xs ls → (∀ k ∈ ls, Lok k) → ls.length = t.nms.length → f ≤ f' → f' + 1 ≤ f + t.nms.length → Q (.ref q) H'
end RR
namespace RR
open PySem PySem.Spec PyProof.Rows L2
open LamX
/-- the shape of a tree -/
noncomputable def shTr : Tr → Sh
  | .leaf n => .link n
  | .two r a b => compS r [shTr a, shTr b]
def spMadeT (C aO aS : Addr) (d : Nat) : Sp := fun vs H Q _ => ∃ x t, vs = [x] ∧ TrV H t x ∧ t.dep < d ∧ (∀ n ∈ t.nms, Nm n) ∧ t.nms.length ≤ 14 ∧ ∀ y H', Same H H' → WebB C aO aS H' y (shTr t) → Q (.ref y) H'
end RR
namespace RR
open PySem PySem.Spec PyProof.Rows L2
open LamX
/-- pairs of joints in a list -/
def SptA (H : Hp) (v : V) (e : Int × Int) : Prop := ∃ q, v = .ref q ∧ H q = some (.tup [.int e.1, .int e.2])
structure SpotsAt (H : Hp) (p r : Addr) (ps : List (Int × Int)) : Prop where
  at_ : ∃ xs, H r = some (.lst xs) ∧ Paired (SptA H) xs ps
  ne : r ≠ p
  ok : ∀ e ∈ ps, (0 ≤ e.1 ∧ e.1 ≤ 99) ∧ 0 ≤ e.2 ∧ e.2 ≤ 99
  few : ps.length ≤ 5
theorem SpotsAt.pen {H H' : Hp} {p c r : Addr} {ns : List Int} {a g : Int} {ps : List (Int × Int)} (W : PenAt H p c ns a g) (k : Keep p H H') (h : SpotsAt H p r ps) : SpotsAt H' p r ps := by
  obtain ⟨xs, h1, h2⟩ := h.at_
  refine ⟨⟨xs, k _ _ h1 h.ne, Paired.mono (fun _ _ hh => ?_) h2⟩, h.ne, h.ok, h.few⟩
  obtain ⟨q, rfl, hq⟩ := hh
  exact ⟨q, rfl, StT.pen W k _ _ hq⟩
/-- links drawn -/
def spNetT : Sp := fun vs H Q _ => ∃ p c ns a g l ws, vs = [.ref p, .ref l] ∧ PenAt H p c ns a g ∧ H l = some (.lst ((ws : List Str).map V.str)) ∧ l ≠ p ∧ ws.length ≤ 10 ∧ (∀ n ∈ ws, Nm n) ∧ a ≤ 95000 ∧
  ∀ q xs ls a' g' H', H' p = some (pen c a' g') → Keep p H H' → H q = none → H' q = some (.lst xs) → TLs H' xs ls → (∀ k ∈ ls, Lok k) → ls.length = ws.length → a ≤ a' → a' ≤ a + 50 → Q (.ref q) H'
end RR
namespace RR
open PySem PySem.Spec PyProof.Rows L2
open LamX
theorem SpotsAt.mut {H : Hp} {p r D : Addr} {xs ys : List V} {ps : List (Int × Int)} (h : SpotsAt H p r ps) (hD : H D = some (.lst xs)) (n : D ≠ r) : SpotsAt (upd H D (.lst ys)) p r ps := by
  obtain ⟨zs, h1, h2⟩ := h.at_
  refine ⟨⟨zs, hp_mut h1 n.symm, Paired.mono (fun _ _ hh => ?_) h2⟩, h.ne, h.ok, h.few⟩
  obtain ⟨q, rfl, hq⟩ := hh
  exact ⟨q, rfl, hp_mut hq (ne_of hq hD (fun z => by cases z))⟩
end RR
namespace RR
open PySem PySem.Spec PyProof.Rows L2
open LamX
/-- links drawn, by a net or by a tree laid -/
def spLinksT : Sp := fun vs H Q _ => ∃ p c ns a g l ws, vs = [.ref p, .ref l] ∧ PenAt H p c ns a g ∧ H l = some (.lst ((ws : List Str).map V.str)) ∧ l ≠ p ∧ 1 ≤ ws.length ∧ ws.length ≤ 10 ∧ (∀ n ∈ ws, Nm n) ∧ a ≤ 94000 ∧
  ∀ q xs ls a' g' H', H' p = some (pen c a' g') → Keep p H H' → q ≠ p → H' q = some (.lst xs) → TLs H' xs ls → (∀ k ∈ ls, Lok k) → ls.length = ws.length → a ≤ a' → a' ≤ a + 60 → Q (.ref q) H'
end RR
namespace RR
open PySem PySem.Spec PyProof.Rows L2
open LamX
/-- links bent -/
def spBentT : Sp := fun vs H Q _ => ∃ p c ns a g l xs ls, vs = [.ref p, .ref l] ∧ PenAt H p c ns a g ∧ H l = some (.lst xs) ∧ TLs H xs ls ∧ (∀ k ∈ ls, Lok k) ∧ l ≠ p ∧ ls.length ≤ 11 ∧ a ≤ 95000 ∧
  ∀ q xs' ls' a' g' H', H' p = some (pen c a' g') → Keep p H H' → q ≠ p → H' q = some (.lst xs') → TLs H' xs' ls' → (∀ k ∈ ls', Lok k) → ls'.length ≤ ls.length + 1 → a ≤ a' → a' ≤ a + 5 → Q (.ref q) H'
end RR
namespace RR
open PySem PySem.Spec PyProof.Rows L2
theorem nm_n : Nm (Str.ofString "n") := ⟨by decide +kernel, by decide +kernel, by decide +kernel, by decide +kernel⟩
end RR
namespace RR
open PySem PySem.Spec PyProof.Rows L2
theorem pair_set {α β : Type} {R : α → β → Prop} {x : α} {y : β} (h : R x y) : ∀ {xs : List α} {ys : List β} {k : Nat}, Paired R xs ys → Paired R (xs.set k x) (ys.set k y)
  | _, _, _, .nil => by simp; exact .nil
  | _, _, 0, .cons a b => .cons h b
  | _, _, k + 1, .cons a b => .cons a (pair_set h b)
theorem ixN_at {n k : Nat} (h : k < n) : ixN n (k : Int) = some k := by
  unfold ixN
  rw [if_pos (by omega), if_pos (by omega)]
  rfl
end RR
namespace RR
open PySem PySem.Spec PyProof.Rows L2
end RR
set_option maxHeartbeats 4000000
namespace RR
open PySem PySem.Spec PyProof.Rows L2
local macro_rules | `(tactic| walk_at "hp") => `(tactic| first | assumption | exact upd_same | (refine hp_new ?_ (by assumption); walk_at "hp") | (refine hp_mut ?_ (by first | assumption | (apply Ne.symm; assumption)); walk_at "hp") | (refine Same.at (by assumption) ?_; walk_at "hp"))
local macro_rules | `(tactic| walk_at "same") => `(tactic| first | exact fun _ _ z => z | assumption | (refine same_new ?_ (by assumption); walk_at "same") | (refine L2.Same.trans ?_ (by assumption); walk_at "same"))
local macro_rules | `(tactic| walk_at "sq") => `(tactic| exact SqL.of (by walk_at "hp"))
local macro_rules | `(tactic| walk_at "sqT") => `(tactic| exact SqT.of (by walk_at "hp"))

open LamX
section
variable {P : Program} {w : World} {K : PySem.W.Frag} {mg : Str → Option Value} {base : Heap}
theorem g__law_pen (T : TX K mg) : FnG P w K mg base CX0 1 T.f__law_pen (spPen K) := by
  refine okG T.F__law_pen sc__law_pen (bd__law_pen T.F__law_pen) (fun vs H Q E h => ?_) (fun cdv A out s H vs Q E hr fr h => ?_)
  · obtain ⟨a, ns, rfl, hS, hl, k⟩ := h
    rfl
  · obtain ⟨a, ns, rfl, hS, hl, k⟩ := h
    refine ⟨_, (pss_one (ps_ret (pe_lst (pa_cons (pe_callTy call_list_of (by rfl) T.b_list (by decide +kernel) (pa_cons (pe_slice sl_list (pv 0) po_none (po_some pe_int)) pa_nil)) (pa_cons pe_int (pa_cons pe_int pa_nil)))))), ?_⟩
    refine ⟨_, rfl, _, rfl, a, _, rfl, hS, fun q1 n1 => ?_⟩
    refine ⟨_, _, rfl, .inl (SqL.of upd_same), fun q2 n2 => ?_⟩
    refine ⟨by show 3 ≤ sizeLine; decide, fun q3 n3 => ?_⟩
    have s1 : Same H (upd (upd (upd H q1 (.lst (cutV (ns.map V.int) none (some 63)))) q2 (.lst (cutV (ns.map V.int) none (some 63)))) q3 (.lst [.ref q2, .int 0, .int 0])) := same_new (same_new (Same.new n1) n2) n3
    refine k q3 q2 _ s1 ((same_new (Same.new n1) n2).free n3) ((Same.new n1).free n2) ⟨upd_same, ?_, by decide, by decide, hl⟩
    rw [upd_ne (ne_of_none upd_same n3), upd_same, cut63 hl]
theorem g__law_draw (T : TX K mg) : FnG P w K mg base CX0 1 T.f__law_draw (spDraw) := by
  refine okG T.F__law_draw sc__law_draw (bd__law_draw T.F__law_draw) (fun vs H Q E h => ?_) (fun cdv A out s H vs Q E hr fr h => ?_)
  · obtain ⟨p, c, ns, a, g, m, rfl, m0, m1, W, k⟩ := h
    rfl
  · obtain ⟨p, c, ns, a, g, m, rfl, m0, m1, W, k⟩ := h
    refine ⟨_, (pss_cons (ps_if (pt_cmpR op_gt (pe_ix ix_list (pv 0) pe_int (fun _ _ => rfl)) pe_int (nomark _)) (pss_cons (ps_set (i := 2) sc__law_draw.nd rfl (Or.inl rfl) (pe_op op_modL (pe_callTy call_int1 (by rfl) T.b_int (by decide +kernel) (pa_cons (pe_ix ix_list (pv 0) pe_int (fun _ _ => rfl)) pa_nil)) (pv 1)))
 (pss_cons (ps_asg (pe_op op_divL (pe_callTy call_int1 (by rfl) T.b_int (by decide +kernel) (pa_cons (pe_ix ix_list (pv 0) pe_int (fun _ _ => rfl)) pa_nil)) (pv 1)) (pg_sub (pv 0) pe_int set_list))
 (pss_one (ps_ret (pv 2))))) pss_nil)
 (pss_cons (ps_set (i := 3) sc__law_draw.nd rfl (Or.inl rfl) (pe_ix ix_list (pv 0) pe_int (fun _ _ => rfl)))
 (pss_cons (ps_asg (pe_op op_add (pv 3) pe_int) (pg_sub (pv 0) pe_int set_list))
 (pss_cons (ps_set (i := 4) sc__law_draw.nd rfl (Or.inl rfl) (pe_op op_add (pe_op op_mulL pe_int (pv 3)) pe_int))
 (pss_cons (ps_if (pt_cmpR (op_neD hr.units) (pe_ix ix_list (pv 0) pe_int (fun _ _ => rfl)) (pe_lst pa_nil) (nomark _)) (pss_one (ps_set (i := 4) sc__law_draw.nd rfl (Or.inl rfl) (pe_ix ix_list (pe_ix ix_list (pv 0) pe_int (fun _ _ => rfl)) (pe_op op_modL (pe_callTy call_int1 (by rfl) T.b_int (by decide +kernel) (pa_cons (pv 3) pa_nil)) (pe_callB call_len_seq (by rfl) T.b_len PySem.boot_len (pa_cons (pe_ix ix_list (pv 0) pe_int (fun _ _ => rfl)) pa_nil))) (fun _ _ => rfl)))) pss_nil)
 (pss_cons (ps_if (PW.pt (pw_and (pt_cmpR op_lt (pv 3) (pe_callB call_len_seq (by rfl) T.b_len PySem.boot_len (pa_cons (pe_ix ix_list (pv 0) pe_int (fun _ _ => rfl)) pa_nil)) (nomark _)) (pw_and1 (pt_cmpR op_ge (pe_callB call_abs (by rfl) T.b_abs (by decide +kernel) (pa_cons (pv 4) pa_nil)) (pe_op op_powL pe_int pe_int) (nomark _))))) (pss_cons (ps_set (i := 5) sc__law_draw.nd rfl (Or.inl rfl) (pe_op op_add (pe_op op_mulL pe_int (pe_callB call_abs (by rfl) T.b_abs (by decide +kernel) (pa_cons (pv 4) pa_nil))) (pe_callTy call_int1 (by rfl) T.b_int (by decide +kernel) (pa_cons (pe_cmpR op_lt (pv 4) pe_int (nomark _)) pa_nil))))
 (pss_cons (ps_asg (pe_op op_divL (pv 5) (pv 1)) (pg_sub (pv 0) pe_int set_list))
 (pss_one (ps_ret (pe_op op_modL (pe_callTy call_int1 (by rfl) T.b_int (by decide +kernel) (pa_cons (pv 5) pa_nil)) (pv 1)))))) pss_nil)
 (pss_cons (ps_set (i := 6) sc__law_draw.nd rfl (Or.inl rfl) (pe_op op_modL (pe_callTy call_int1 (by rfl) T.b_int (by decide +kernel) (pa_cons (pe_op op_powL (pe_op op_add (pe_op op_add (pe_op op_modL (pe_callTy call_int1 (by rfl) T.b_int (by decide +kernel) (pa_cons (pv 4) pa_nil)) pe_int) (pe_op op_mulL pe_int (pv 3))) pe_int) pe_int) pa_nil)) pe_int))
 (pss_cons (ps_set (i := 6) sc__law_draw.nd rfl (Or.inl rfl) (pe_op op_modL (pe_callTy call_int1 (by rfl) T.b_int (by decide +kernel) (pa_cons (pe_op op_powL (pe_op op_add (pe_op op_add (pe_op op_mulL (pv 6) (pe_op op_add (pe_op op_mulL pe_int (pv 3)) pe_int)) (pe_op op_mulL (pe_op op_mulL pe_int (pv 3)) (pv 3))) pe_int) pe_int) pa_nil)) pe_int))
 (pss_one (ps_ret (pe_op op_modL (pe_callTy call_int1 (by rfl) T.b_int (by decide +kernel) (pa_cons (pe_op op_divL (pv 6) pe_int) pa_nil)) (pv 1)))))))))))), ?_⟩
    have WP := W.pn
    have WC := W.cs
    have WL := W.la
    have WB := W.lb
    have WN := W.ne
    refine ⟨_, rfl, _, _, _, _, rfl, rfl, (SqL.of (by walk_at "hp")), rfl, _, _, rfl, rfl, _, rfl, ?_⟩
    refine ite2 (fun t1 => ?_) (fun t1 => ?_)
    · skip
      refine ⟨_, rfl, _, _, _, _, rfl, rfl, (SqL.of (by walk_at "hp")), rfl, .inl ⟨_, rfl, ?_⟩⟩
      refine ⟨_, rfl, _, _, rfl, rfl, (by omega), fun r2 h2a h2b => ?_⟩
      refine ⟨_, rfl, _, _, _, _, rfl, rfl, (SqL.of (by walk_at "hp")), rfl, .inl ⟨_, rfl, ?_⟩⟩
      refine ⟨_, rfl, _, _, rfl, rfl, (by omega), fun r3 => ?_⟩
      refine ⟨_, rfl, _, _, _, _, rfl, rfl, (by walk_at "hp"), rfl, _, rfl, ?_⟩
      exact k _ _ _ _ (by walk_at "hp") (fun b o hb hne => by walk_at "hp") (by assumption) (by assumption) (by omega) (by omega)
    · skip
      refine ⟨_, rfl, _, _, _, _, rfl, rfl, (SqL.of (by walk_at "hp")), rfl, _, rfl, _, _, rfl, rfl, _, rfl, _, _, _, _, rfl, rfl, (by walk_at "hp"), rfl, _, rfl, _, _, rfl, rfl, (by omega), _, _, rfl, rfl, _, rfl, _, _, _, _, rfl, rfl, (SqL.of (by walk_at "hp")), rfl, (by show _ ≤ _; decide), fun q4 hq4 => ?_⟩
      refine ⟨.list (ns.map PyData.int), .list [], .lst (SqL.of (by walk_at "hp")) (dp_ints ns), .lst (SqL.of upd_same) .nil, shaped_ints ns, by decide, ?_⟩
      rw [eqv_nil]
      refine ⟨_, rfl, ?_⟩
      refine ite2 (fun t5 => ?_) (fun t5 => ?_)
      · skip
        refine ⟨_, rfl, _, _, _, _, rfl, rfl, (SqL.of (by walk_at "hp")), rfl, _, rfl, .inl ⟨_, rfl, ?_⟩⟩
        refine ⟨_, rfl, _, _, _, _, rfl, rfl, (SqL.of (by walk_at "hp")), rfl, _, _, rfl, .inl (SqL.of (by walk_at "hp")), _, _, rfl, rfl, (len_pos (by assumption)), fun r6 h6a h6b => ?_⟩
        obtain ⟨n, _, hn⟩ := at_map (ns := ns) h6a h6b
        refine ⟨_, _, _, _, rfl, rfl, SqL.of (by walk_at "hp"), hn, ?_⟩
        refine ⟨_, rfl, _, rfl, _, _, _, _, rfl, rfl, (SqL.of (by walk_at "hp")), rfl, _, _, rfl, .inl (SqL.of (by walk_at "hp")), _, _, rfl, rfl, _, rfl, ?_⟩
        refine ite2 (fun u1 => ?_) (fun u1 => ?_)
        · skip
          refine ⟨_, rfl, _, rfl, _, _, rfl, rfl, ⟨by decide, by decide, by omega⟩, fun r7 => ?_⟩
          refine ⟨_, _, rfl, rfl, _, rfl, ?_⟩
          refine ite2 (fun u2 => ?_) (fun u2 => ?_)
          · skip
            refine ⟨_, rfl, _, rfl, _, _, rfl, rfl, (by omega), _, rfl, _, _, rfl, rfl, .inr ⟨_, rfl, ?_⟩⟩
            refine ⟨_, _, rfl, rfl, _, rfl, _, rfl, _, _, rfl, rfl, (by omega), fun r8 => ?_⟩
            refine ⟨_, rfl, _, _, _, _, rfl, rfl, (by walk_at "hp"), rfl, _, rfl, .inl ⟨_, rfl, ?_⟩⟩
            refine ⟨_, rfl, _, _, rfl, rfl, (by omega), fun r9 h9a h9b => ?_⟩
            exact k _ _ _ _ (by walk_at "hp") (fun b o hb hne => by walk_at "hp") (by assumption) (by assumption) (by omega) (by omega)
          · skip
            refine ⟨_, rfl, .inl ⟨_, rfl, ?_⟩⟩
            refine ⟨_, _, rfl, rfl, (by omega), fun r10 h10a h10b => ?_⟩
            refine ⟨_, rfl, _, _, rfl, rfl, (by omega), _, _, rfl, rfl, _, _, rfl, rfl, _, _, rfl, rfl, ⟨by decide, by decide, by omega⟩, fun r11 => ?_⟩
            refine .inl ⟨_, rfl, ?_⟩
            refine ⟨_, _, rfl, rfl, (by omega), fun r12 h12a h12b => ?_⟩
            refine ⟨_, rfl, _, rfl, _, _, rfl, rfl, (by omega), _, _, rfl, rfl, _, _, rfl, rfl, (by omega), _, rfl, _, _, rfl, rfl, (by omega), _, rfl, _, _, rfl, rfl, (by omega), _, _, rfl, rfl, _, _, rfl, rfl, _, _, rfl, rfl, ⟨by decide, by decide, pow3_b (by assumption) (by omega) WL WB (by decide) (by decide) (by decide) (by decide) (by decide) (by decide)⟩, fun r13 => ?_⟩
            refine .inl ⟨_, rfl, ?_⟩
            refine ⟨_, _, rfl, rfl, (by omega), fun r14 h14a h14b => ?_⟩
            refine ⟨_, rfl, _, _, rfl, rfl, (by omega), fun r15 => ?_⟩
            refine .inl ⟨_, rfl, ?_⟩
            refine ⟨_, rfl, _, _, rfl, rfl, (by omega), fun r16 h16a h16b => ?_⟩
            exact k _ _ _ _ (by walk_at "hp") (fun b o hb hne => by walk_at "hp") (by assumption) (by assumption) (by omega) (by omega)
        · skip
          refine ⟨_, rfl, .inl ⟨_, rfl, ?_⟩⟩
          refine ⟨_, _, rfl, rfl, (by omega), fun r17 h17a h17b => ?_⟩
          refine ⟨_, rfl, _, _, rfl, rfl, (by omega), _, _, rfl, rfl, _, _, rfl, rfl, _, _, rfl, rfl, ⟨by decide, by decide, by omega⟩, fun r18 => ?_⟩
          refine .inl ⟨_, rfl, ?_⟩
          refine ⟨_, _, rfl, rfl, (by omega), fun r19 h19a h19b => ?_⟩
          refine ⟨_, rfl, _, rfl, _, _, rfl, rfl, (by omega), _, _, rfl, rfl, _, _, rfl, rfl, (by omega), _, rfl, _, _, rfl, rfl, (by omega), _, rfl, _, _, rfl, rfl, (by omega), _, _, rfl, rfl, _, _, rfl, rfl, _, _, rfl, rfl, ⟨by decide, by decide, pow3_b (by assumption) (by omega) WL WB (by decide) (by decide) (by decide) (by decide) (by decide) (by decide)⟩, fun r20 => ?_⟩
          refine .inl ⟨_, rfl, ?_⟩
          refine ⟨_, _, rfl, rfl, (by omega), fun r21 h21a h21b => ?_⟩
          refine ⟨_, rfl, _, _, rfl, rfl, (by omega), fun r22 => ?_⟩
          refine .inl ⟨_, rfl, ?_⟩
          refine ⟨_, rfl, _, _, rfl, rfl, (by omega), fun r23 h23a h23b => ?_⟩
          exact k _ _ _ _ (by walk_at "hp") (fun b o hb hne => by walk_at "hp") (by assumption) (by assumption) (by omega) (by omega)
      · skip
        refine ⟨_, rfl, _, rfl, _, _, _, _, rfl, rfl, (SqL.of (by walk_at "hp")), rfl, _, _, rfl, .inl (SqL.of (by walk_at "hp")), _, _, rfl, rfl, _, rfl, ?_⟩
        refine ite2 (fun u1 => ?_) (fun u1 => ?_)
        · skip
          refine ⟨_, rfl, _, rfl, _, _, rfl, rfl, ⟨by decide, by decide, by omega⟩, fun r24 => ?_⟩
          refine ⟨_, _, rfl, rfl, _, rfl, ?_⟩
          refine ite2 (fun u2 => ?_) (fun u2 => ?_)
          · skip
            refine ⟨_, rfl, _, rfl, _, _, rfl, rfl, (by omega), _, rfl, _, _, rfl, rfl, .inr ⟨_, rfl, ?_⟩⟩
            refine ⟨_, _, rfl, rfl, _, rfl, _, rfl, _, _, rfl, rfl, (by omega), fun r25 => ?_⟩
            refine ⟨_, rfl, _, _, _, _, rfl, rfl, (by walk_at "hp"), rfl, _, rfl, .inl ⟨_, rfl, ?_⟩⟩
            refine ⟨_, rfl, _, _, rfl, rfl, (by omega), fun r26 h26a h26b => ?_⟩
            exact k _ _ _ _ (by walk_at "hp") (fun b o hb hne => by walk_at "hp") (by assumption) (by assumption) (by omega) (by omega)
          · skip
            refine ⟨_, rfl, .inl ⟨_, rfl, ?_⟩⟩
            refine ⟨_, _, rfl, rfl, (by omega), fun r27 h27a h27b => ?_⟩
            refine ⟨_, rfl, _, _, rfl, rfl, (by omega), _, _, rfl, rfl, _, _, rfl, rfl, _, _, rfl, rfl, ⟨by decide, by decide, by omega⟩, fun r28 => ?_⟩
            refine .inl ⟨_, rfl, ?_⟩
            refine ⟨_, _, rfl, rfl, (by omega), fun r29 h29a h29b => ?_⟩
            refine ⟨_, rfl, _, rfl, _, _, rfl, rfl, (by omega), _, _, rfl, rfl, _, _, rfl, rfl, (by omega), _, rfl, _, _, rfl, rfl, (by omega), _, rfl, _, _, rfl, rfl, (by omega), _, _, rfl, rfl, _, _, rfl, rfl, _, _, rfl, rfl, ⟨by decide, by decide, pow3_b (by assumption) (by omega) WL WB (by decide) (by decide) (by decide) (by decide) (by decide) (by decide)⟩, fun r30 => ?_⟩
            refine .inl ⟨_, rfl, ?_⟩
            refine ⟨_, _, rfl, rfl, (by omega), fun r31 h31a h31b => ?_⟩
            refine ⟨_, rfl, _, _, rfl, rfl, (by omega), fun r32 => ?_⟩
            refine .inl ⟨_, rfl, ?_⟩
            refine ⟨_, rfl, _, _, rfl, rfl, (by omega), fun r33 h33a h33b => ?_⟩
            exact k _ _ _ _ (by walk_at "hp") (fun b o hb hne => by walk_at "hp") (by assumption) (by assumption) (by omega) (by omega)
        · skip
          refine ⟨_, rfl, .inl ⟨_, rfl, ?_⟩⟩
          refine ⟨_, _, rfl, rfl, (by omega), fun r34 h34a h34b => ?_⟩
          refine ⟨_, rfl, _, _, rfl, rfl, (by omega), _, _, rfl, rfl, _, _, rfl, rfl, _, _, rfl, rfl, ⟨by decide, by decide, by omega⟩, fun r35 => ?_⟩
          refine .inl ⟨_, rfl, ?_⟩
          refine ⟨_, _, rfl, rfl, (by omega), fun r36 h36a h36b => ?_⟩
          refine ⟨_, rfl, _, rfl, _, _, rfl, rfl, (by omega), _, _, rfl, rfl, _, _, rfl, rfl, (by omega), _, rfl, _, _, rfl, rfl, (by omega), _, rfl, _, _, rfl, rfl, (by omega), _, _, rfl, rfl, _, _, rfl, rfl, _, _, rfl, rfl, ⟨by decide, by decide, pow3_b (by assumption) (by omega) WL WB (by decide) (by decide) (by decide) (by decide) (by decide) (by decide)⟩, fun r37 => ?_⟩
          refine .inl ⟨_, rfl, ?_⟩
          refine ⟨_, _, rfl, rfl, (by omega), fun r38 h38a h38b => ?_⟩
          refine ⟨_, rfl, _, _, rfl, rfl, (by omega), fun r39 => ?_⟩
          refine .inl ⟨_, rfl, ?_⟩
          refine ⟨_, rfl, _, _, rfl, rfl, (by omega), fun r40 h40a h40b => ?_⟩
          exact k _ _ _ _ (by walk_at "hp") (fun b o hb hne => by walk_at "hp") (by assumption) (by assumption) (by omega) (by omega)
theorem g__law_pick (T : TX K mg) : FnG P w K mg base CX0 2 T.f__law_pick (spPick K) := by
  refine okG T.F__law_pick sc__law_pick (bd__law_pick T.F__law_pick) (fun vs H Q E h => ?_) (fun cdv A out s H vs Q E hr fr h => ?_)
  · obtain ⟨p, q, c, ns, a, g, xs, rfl, W, hq, hqp, x0, x1, k⟩ := h
    rfl
  · obtain ⟨p, q, c, ns, a, g, xs, rfl, W, hq, hqp, x0, x1, k⟩ := h
    refine ⟨_, (pss_one (ps_ret (pe_ix ix_list (pv 1) (pe_callG (g__law_draw T) (hr.mono (by decide)) fr (by rfl) T.m__law_draw T.F__law_draw.kp pass0 (pa_cons (pv 0) (pa_cons (pe_callB call_len_seq (by rfl) T.b_len PySem.boot_len (pa_cons (pv 1) pa_nil)) pa_nil))) (fun _ _ => rfl)))), ?_⟩
    refine ⟨_, rfl, _, rfl, _, rfl, _, _, rfl, .inl (SqL.of hq), ?_⟩
    refine ⟨p, c, ns, a, g, _, rfl, by omega, by omega, W, fun d a' g' H' hp kp d0 d1 h1 h2 => ?_⟩
    obtain ⟨x, hx, ha⟩ := at_some d0 d1
    exact ⟨q, xs, d, x, rfl, rfl, SqL.of (kp _ _ hq hqp), ha, k x a' g' H' hp kp hx h1 h2⟩
end
end RR
set_option maxHeartbeats 4000000
namespace RR
open PySem PySem.Spec PyProof.Rows L2
open LamX
/-! ### what joins, of webs turned, put in duals, joined by signs -/
/-- never worse -/
def LeW (s t : Sh) : Prop := ∀ ns, joinsB ns s → joinsB ns t
end RR
set_option maxHeartbeats 4000000
namespace RR
open PySem PySem.Spec PyProof.Rows L2
open LamX
/-! ### a web put in the places of a name, shapes without nets -/
mutual
noncomputable def fillW (x : Str) (t : Sh) : Sh → Sh
  | .link n => if n = x then t else .link n
  | .net ls => .net ls
  | .node r ps => compS r (fillWL x t ps)
  | .opn => .opn
  | .shut => .shut
noncomputable def fillWL (x : Str) (t : Sh) : List Sh → List Sh
  | [] => []
  | s :: ss => fillW x t s :: fillWL x t ss
end
/-! ### the names of what is joined -/
end RR
namespace RR
open PySem PySem.Spec PyProof.Rows L2
open LamX
/-- put_in(shape, name, other), shapes without nets -/
def spPutG (aO aS : Addr) (d : Nat) : Sp := fun vs H Q _ => ∃ v s n w t, vs = [v, .str n, w] ∧ ShV (.pr aO aS) H s v ∧ ShV (.pr aO aS) H t w ∧ Lay d s ∧ hasNet s = false ∧ Nrm t ∧ siz t ≤ 14 ∧ dep s + dep t ≤ 18 ∧ ∀ u H', Same H H' → ShV (.pr aO aS) H' (fillW n t s) u → Q u H'
theorem nms_len : ∀ s : Sh, (nmS s).length = siz s := sh_ind fun s ih => by
  cases s with
  | link m => rw [nmS, siz]; rfl
  | net ls => rw [nmS, siz, List.length_map]
  | node r ps =>
    rw [nmS, siz]
    have key : ∀ qs : List Sh, (∀ q ∈ qs, (nmS q).length = siz q) → (nmL qs).length = sizL qs := fun qs => by
      induction qs with
      | nil => exact fun _ => rfl
      | cons q qs ih2 =>
        intro h
        rw [nmL, sizL, List.length_append, h q (.head _), ih2 fun y hy => h y (.tail _ hy)]
    exact key ps fun q hq => ih q (dep_part hq)
  | opn => rw [nmS, siz]; rfl
  | shut => rw [nmS, siz]; rfl
end RR
namespace RR
open PySem PySem.Spec PyProof.Rows L2
open LamX
/-- web.put(name, other), webs without nets -/
def spPutM (C aO aS : Addr) : Sp := fun vs H Q _ => ∃ x y s t n, vs = [.ref x, .str n, .ref y] ∧ WebB C aO aS H x s ∧ WebB C aO aS H y t ∧ n ∈ nmS s ∧ hasNet s = false ∧ siz (fillW n t s) ≤ 14 ∧ dep s + dep t ≤ 18 ∧ ∀ z H', Same H H' → WebB C aO aS H' z (fillW n t s) → Q (.ref z) H'
end RR
namespace RR
open PySem PySem.Spec PyProof.Rows L2
open LamX
/-- the same deed done on two webs -/
def spDoneT (C aO aS : Addr) : Sp := fun vs H Q _ => ∃ p c ns a g l x y s t, vs = [.ref p, .ref l] ∧ PenAt H p c ns a g ∧ H l = some (.lst [.ref x, .ref y]) ∧ l ≠ p ∧ WebB C aO aS H x s ∧ WebB C aO aS H y t ∧ siz s ≤ 5 ∧ siz t ≤ 5 ∧ a ≤ 90000 ∧
  ∀ q x' y' s' t' a' g' H', H' p = some (pen c a' g') → Keep p H H' → q ≠ p → H' q = some (.lst [.ref x', .ref y']) → WebB C aO aS H' x' s' → WebB C aO aS H' y' t' → (LeW s t → LeW s' t') → siz s' ≤ 11 → siz t' ≤ 11 → a ≤ a' → a' ≤ a + 50 → Q (.ref q) H'
end RR
namespace RR
open PySem PySem.Spec PyProof.Rows L2
end RR
namespace RR
open PySem PySem.Spec PyProof.Rows L2
end RR
namespace RR
open PySem PySem.Spec PyProof.Rows L2
open LamX
/-- webs made one by one -/
def WbA (C aO aS : Addr) (H : Hp) (v : V) (s : Sh) : Prop := ∃ z, v = .ref z ∧ WebB C aO aS H z s
end RR
namespace RR
open PySem PySem.Spec PyProof.Rows L2
open LamX
end RR
set_option maxHeartbeats 4000000
namespace RR
open PySem PySem.Spec PyProof.Rows L2
open LamX
/-! ### shapes of trees of names have no units: nothing is lost -/
structure FullS (s : Sh) : Prop where
  un : ∀ r, ∀ q ∈ innerOf r s, q ≠ .opn ∧ q ≠ .shut
  ne : ∀ r, innerOf r s ≠ []
end RR
namespace RR
open PySem PySem.Spec PyProof.Rows L2
open LamX
end RR
namespace RR
open PySem PySem.Spec PyProof.Rows L2
open LamX
def spAloneT (C aO aS : Addr) : Sp := fun vs H Q _ => ∃ p c ns a g x s, vs = [.ref p, .ref x] ∧ PenAt H p c ns a g ∧ WebB C aO aS H x s ∧ siz s ≤ 5 ∧ a ≤ 95000 ∧ ∀ a' g' H', H' p = some (pen c a' g') → Keep p H H' → a ≤ a' → a' ≤ a + 2 → Q (.bl true) H'
end RR
namespace RR
open PySem PySem.Spec PyProof.Rows L2
end RR
namespace RR
open PySem PySem.Spec PyProof.Rows L2
open LamX
def spKeptT (C aO aS : Addr) : Sp := fun vs H Q _ => ∃ p c ns a g x y s t, vs = [.ref p, .ref x, .ref y] ∧ PenAt H p c ns a g ∧ WebB C aO aS H x s ∧ WebB C aO aS H y t ∧ siz s ≤ 5 ∧ siz t ≤ 5 ∧ a ≤ 85000 ∧ ∀ a' g' H', H' p = some (pen c a' g') → Keep p H H' → a ≤ a' → a' ≤ a + 160 → Q (.bl true) H'
end RR
namespace RR
open PySem PySem.Spec PyProof.Rows L2
end RR
namespace RR
open PySem PySem.Spec PyProof.Rows L2
open LamX
end RR
set_option maxHeartbeats 4000000
namespace RR
open PySem PySem.Spec PyProof.Rows L2
open LamX
/-! ### the order link by link: a name taken out, a name made sure -/
theorem nm_netB {ls : List Lk} {m : Str} (h : m ∈ nmS (netB ls)) : ∃ l ∈ ls, l.1 = m := by
  unfold netB at h
  split at h
  · rw [nmS] at h; cases h
  · rw [nmS] at h
    obtain ⟨l, hl, rfl⟩ := List.mem_map.mp h
    obtain ⟨k, hk, rfl⟩ := ordL_mem.mp hl
    exact ⟨k, hk, (norm_name k).symm⟩
theorem onceS_one (l : List Str) : (onceS l).Nodup := by
  unfold onceS
  exact (srtS_perm _).nodup_iff.mpr (dd_one l)
/-- the unlike names of two webs -/
def bothN (s t : Sh) : List Str := onceS (onceS (nmS s) ++ onceS (nmS t))
end RR
namespace RR
open PySem PySem.Spec PyProof.Rows L2
open LamX
def spBoth (C aO aS : Addr) : Sp := fun vs H Q _ => ∃ x y s t, vs = [.ref x, .ref y] ∧ WebB C aO aS H x s ∧ WebB C aO aS H y t ∧ ∀ p H', Same H H' → H' p = some (.lst ((bothN s t).map V.str)) → Q (.ref p) H'
/-- link_by_link(one, other), fewer than d unlike names in both -/
def spByLink (C aO aS : Addr) (d : Nat) : Sp := fun vs H Q _ => ∃ x y s t, vs = [.ref x, .ref y] ∧ WebB C aO aS H x s ∧ WebB C aO aS H y t ∧ (bothN s t).length < d ∧ ∀ b H', Same H H' → (b = true ↔ LeW s t) → Q (.bl b) H'
def spShowsB (C aO aS TM : Addr) : Sp := fun vs H Q E => ∃ x y s t, vs = [.ref x, .ref y] ∧ WebB C aO aS H x s ∧ WebB C aO aS H y t ∧ (8 < (bothN s t).length → Fails TM "most" (.int 8) H E) ∧ ((bothN s t).length ≤ 8 → ∀ b H', Same H H' → (b = true ↔ LeW s t) → Q (.bl b) H')
end RR
set_option maxHeartbeats 4000000
namespace RR
open PySem PySem.Spec PyProof.Rows L2
open LamX
/-! ### pairs of drawn links -/
structure LkAt (H : Hp) (p r : Addr) (ls : List Lk) : Prop where
  ne : r ≠ p
  at_ : ∃ xs, H r = some (.lst xs) ∧ TLs H xs ls
  ok : ∀ k ∈ ls, Lok k
def spPairT : Sp := fun vs H Q _ => ∃ p c ns a g, vs = [.ref p] ∧ PenAt H p c ns a g ∧ a ≤ 90000 ∧
  ∀ q r1 r2 ls1 ls2 a' g' H', H' p = some (pen c a' g') → Keep p H H' → q ≠ p → H' q = some (.lst [.ref r1, .ref r2]) → LkAt H' p r1 ls1 → LkAt H' p r2 ls2 → ls1.length ≤ 5 → ls2.length ≤ 7 → a ≤ a' → a' ≤ a + 200 → Q (.ref q) H'
theorem abc6_ok : ∀ n ∈ [Str.ofString "a", Str.ofString "ab", Str.ofString "b", Str.ofString "c", Str.ofString "m", Str.ofString "zz"], Nm n := fun n hn => by
  simp only [List.mem_cons, List.not_mem_nil, or_false] at hn
  rcases hn with rfl | rfl | rfl | rfl | rfl | rfl <;> exact ⟨by decide +kernel, by decide +kernel, by decide +kernel, by decide +kernel⟩
end RR
namespace RR
open PySem PySem.Spec PyProof.Rows L2 LamX
/-! ### f(k = v, ..), a def of the top -/
def tCallN0 (n : Nat) (sp : Sp) (gV : List V → List V → List V) (E : XK) (tk : TA) : TE := fun σ H Q => tk σ H fun zs H2 => zs.length = n ∧ sp (gV [] zs) H2 Q E
theorem pe_callN0 {X : Cx} {CX : CXT} {k : Nat} {f : Addr} {fd : FuncData} {ps ks : List Str} {x : Str} {sp : Sp} {E : XK} {kws : List Keyword} {tk : TA} {g : List Value → List Value → List Value} {gV : List V → List V → List V} {p pos : Pos}
    (F : FnOk X.prog X.w X.K X.mg X.base CX k f fd ps sp) (hr : Room k X.A) (hg : Gl X x) (hm : X.mg x = some (.ref f)) (hkp : PySem.W.keepIn X.K (.ref f) = true) (hb : KBn X.K fd ps 0 ks g gV) (hx : Passes CX X E) (hk : PK X kws tk)
    (hall : (backToKw pos (keywordEach kws X.env)).all (·.1.isSome) = true := by rfl) (hks : (backToKw pos (keywordEach kws X.env)).filterMap (·.1) = ks := by rfl)
    (hdb : (x == ("__debug__" : Str)) = false := by decide)
    (hpl : ((backTo pos (starEach [] X.env)).any (·.1) || (backToKw pos (keywordEach kws X.env)).any (·.1.isNone)) = false := by rfl) :
    PE X (.Call (.Name x p) [] kws pos) (tCallN0 ks.length sp gV E tk) := by
  refine ⟨fun pins s σ H Q I h => ?_⟩
  refine wpAny_Call_Name_kw (ld_glob I hg hm ?_ hdb)
  refine PySem.W.callWith_KW0 (first := []) (h₀ := X.base) I.ok.mod.kin hkp hall (thn (hk.run pos pins s σ H _ I h) fun ws s2 ⟨zs, H2, I2, rz, l2, q2⟩ => ⟨I2.kIn, ?_⟩) hpl
  rw [hks]
  exact run_fnN (us := []) (vs := []) F hr hb hx I2 .nil rz rfl l2 q2
end RR
namespace RR
open PySem PySem.Spec PyProof.Rows L2
open LamX
/-- what is heard of shows_by_links -/
def spHeardB (C aO aS : Addr) : Sp := fun vs H Q _ => ∃ x y s t, vs = [.ref x, .ref y] ∧ WebB C aO aS H x s ∧ WebB C aO aS H y t ∧ (8 < (bothN s t).length → ∀ q H', Same H H' → H' q = some (.tup [.str "many", .int 8]) → Q (.ref q) H') ∧
  ((bothN s t).length ≤ 8 → ∀ b q H', Same H H' → (b = true ↔ LeW s t) → H' q = some (.tup [.str "told", .bl b]) → Q (.ref q) H')
/-- _law_right(lhs, rhs) -/
def spRightB (C aO aS : Addr) : Sp := fun vs H Q _ => ∃ x y s t, vs = [.ref x, .ref y] ∧ WebB C aO aS H x s ∧ WebB C aO aS H y t ∧ siz s ≤ 7 ∧ siz t ≤ 7 ∧ (bothN s t).length ≤ 8 ∧ ∀ H', Same H H' → Q (.bl true) H'
end RR
set_option maxHeartbeats 4000000
namespace RR
open PySem PySem.Spec PyProof.Rows L2
open LamX
/-! ### repr(b), b true or false -/
section
variable {X : Cx}
end
/-- t + u, both tracked, each perhaps empty -/
def rCatV (K : PySem.W.Frag) : R2 := fun x y H Q => ∃ a b xs ys, x = .ref a ∧ y = .ref b ∧ H a = some (.tup xs) ∧ H b = some (.tup ys) ∧ xs.length + ys.length ≤ sizeLine ∧ ∀ p H', Same H H' → H' p = some (.tup (xs ++ ys)) → Q (.ref p) H'
theorem op_catV {X : Cx} : OpR X (binaryOp .Add) (rCatV X.K) := by
  intro pins s σ H x y v u Q I rx ry h
  obtain ⟨a, b, xs, ys, rfl, rfl, ha, hb, hz, q⟩ := h
  cases xs with
  | cons z xs =>
    exact op_catT pins s σ H (.ref a) (.ref b) v u Q I rx ry ⟨a, b, z :: xs, ys, rfl, rfl, SqT.of ha, SqT.of hb, by simp, hz, fun e => q a H (Same.refl _) (by rw [ha, e, List.append_nil]), fun _ p np => q p _ (Same.new np) upd_same⟩
  | nil =>
    cases rx
    cases ry
    obtain ⟨its, r1, p1, _⟩ := I.tuple (SqT.of (K := X.K) ha)
    obtain ⟨its2, r2, p2, _⟩ := I.tuple (SqT.of (K := X.K) hb)
    have e : its = [] := r1.nil_iff.mpr rfl
    subst e
    exact cat_tup0 p1 p2 ⟨.ref b, H, I, rfl, q b H (Same.refl _) hb⟩
end RR
namespace RR
open PySem PySem.Spec PyProof.Rows L2
end RR
set_option maxHeartbeats 4000000
namespace RR
open PySem PySem.Spec PyProof.Rows L2
open LamX
/-! ### what the laws on orders look at themselves: names that join links, found joint by joint; choices; least ways -/
theorem con_in {E : Edg} {P : Int → Prop} (cl : ∀ p ∈ E, (P p.1 ↔ P p.2)) {a b : Int} (c : Con E a b) : P a → P b := by
  induction c with
  | refl => exact id
  | step e _ ih =>
    intro pa
    rcases e with e | e
    · exact ih ((cl _ e).mp pa)
    · exact ih ((cl _ e).mpr pa)
/-- joints known from 0 on -/
structure Knw (ns : List Str) (ls : List Lk) (js : List Int) : Prop where
  zero : (0 : Int) ∈ js
  con : ∀ j ∈ js, Con (edgL ns ls) 0 j
  one : js.Nodup
  few : ∀ j ∈ js, j ∈ 0 :: (ls.flatMap fun l => [l.2.1, l.2.2])
theorem Knw.len {ns : List Str} {ls : List Lk} {js : List Int} (h : Knw ns ls js) : js.length ≤ 2 * ls.length + 1 := by
  have := nodup_le_of h.one h.few
  have e : (ls.flatMap fun l : Lk => [l.2.1, l.2.2]).length = 2 * ls.length := by
    clear this h
    induction ls with
    | nil => rfl
    | cons l ls ih => rw [List.flatMap_cons, List.length_append, ih]; show 2 + _ = 2 * (ls.length + 1); omega
  rw [List.length_cons, e] at this
  exact this
theorem knw_start (ns : List Str) (ls : List Lk) : Knw ns ls [0] := ⟨.head _, fun j hj => by rw [List.mem_singleton.mp hj]; exact .refl _, by simp, fun j hj => by rw [List.mem_singleton.mp hj]; exact .head _⟩
theorem knw_more {ns : List Str} {ls : List Lk} {js : List Int} (h : Knw ns ls js) {k : Lk} (hk : k ∈ ls) (hn : k.1 ∈ ns) {a b : Int} (e : (a = k.2.1 ∧ b = k.2.2) ∨ (a = k.2.2 ∧ b = k.2.1)) (ha : a ∈ js) (hb : b ∉ js) : Knw ns ls (js ++ [b]) := by
  have c := con_lk hk hn
  refine ⟨List.mem_append_left _ h.zero, fun j hj => ?_, ?_, fun j hj => ?_⟩
  · rcases List.mem_append.mp hj with hj | hj
    · exact h.con j hj
    · rw [List.mem_singleton.mp hj]
      rcases e with ⟨rfl, rfl⟩ | ⟨rfl, rfl⟩
      · exact (h.con _ ha).trans c
      · exact (h.con _ ha).trans c.symm
  · rw [List.nodup_append]
    refine ⟨h.one, by simp, fun x hx y hy => ?_⟩
    rw [List.mem_singleton.mp hy]
    exact fun z => hb (z ▸ hx)
  · rcases List.mem_append.mp hj with hj | hj
    · exact h.few j hj
    · rw [List.mem_singleton.mp hj]
      refine List.mem_cons_of_mem _ (List.mem_flatMap.mpr ⟨k, hk, ?_⟩)
      rcases e with ⟨rfl, rfl⟩ | ⟨rfl, rfl⟩
      · exact .tail _ (.head _)
      · exact .head _
theorem knw_end {ns : List Str} {ls : List Lk} {js : List Int} (h : Knw ns ls js) (cl : ∀ k ∈ ls, k.1 ∈ ns → (k.2.1 ∈ js ↔ k.2.2 ∈ js)) : (1 : Int) ∈ js ↔ Con (edgL ns ls) 0 1 := by
  refine ⟨h.con 1, fun c => con_in (P := fun j => j ∈ js) (fun p hp => ?_) c h.zero⟩
  obtain ⟨k, hk, hn, rfl⟩ := edgL_mem.mp hp
  exact cl k hk hn
def spJndT (K : PySem.W.Frag) : Sp := fun vs H Q _ => ∃ l v xs ls ns, vs = [.ref l, v] ∧ H l = some (.lst xs) ∧ TLs H xs ls ∧ SqV K H v (ns.map V.str) ∧ ls.length ≤ 40 ∧ ∀ b H', Same H H' → (b = true ↔ Con (edgL ns ls) 0 1) → Q (.bl b) H'
/-! choices -/
def chs : Nat → List Str → List (List Str)
  | 0, _ => [[]]
  | m + 1, ns => (List.range ns.length).flatMap fun i => (chs m (ns.drop (i + 1))).map fun c => ns.getD i Str.empty :: c
theorem chs_nil (m : Nat) : chs (m + 1) [] = [] := rfl
theorem chs_cons (m : Nat) (x : Str) (ns : List Str) : chs (m + 1) (x :: ns) = (chs m ns).map (fun c => x :: c) ++ chs (m + 1) ns := by
  rw [chs, chs, List.length_cons, List.range_succ_eq_map, List.flatMap_cons, List.flatMap_map]
  rfl
theorem chs_len : ∀ (ns : List Str) (m : Nat), (chs m ns).length ≤ 2 ^ ns.length
  | ns, 0 => Nat.one_le_two_pow
  | [], m + 1 => by rw [chs_nil]; exact Nat.zero_le _
  | x :: ns, m + 1 => by
    rw [chs_cons, List.length_append, List.length_map, List.length_cons, Nat.pow_succ]
    have a := chs_len ns m
    have b := chs_len ns (m + 1)
    omega
theorem chs_sub : ∀ (ns : List Str) (m : Nat) (c : List Str), c ∈ chs m ns → c.Sublist ns
  | ns, 0, c, h => by rw [List.mem_singleton.mp (show c ∈ [[]] from h)]; exact List.nil_sublist _
  | [], m + 1, c, h => by rw [chs_nil] at h; cases h
  | x :: ns, m + 1, c, h => by
    rw [chs_cons] at h
    rcases List.mem_append.mp h with h | h
    · obtain ⟨d, hd, rfl⟩ := List.mem_map.mp h
      exact (chs_sub ns m d hd).cons_cons x
    · exact (chs_sub ns (m + 1) c h).cons x
theorem sub_chs : ∀ {ns c : List Str}, c.Sublist ns → c ∈ chs c.length ns
  | _, _, .slnil => .head _
  | _, [], .cons _ h => .head _
  | x :: ns, y :: c, .cons _ h => by
    rw [List.length_cons, chs_cons]
    exact List.mem_append_right _ (sub_chs h)
  | x :: ns, _ :: c, .cons_cons _ h => by
    rw [List.length_cons, chs_cons]
    exact List.mem_append_left _ (List.mem_map.mpr ⟨c, sub_chs h, rfl⟩)
def TpA (H : Hp) (v : V) (c : List Str) : Prop := ∃ r, v = .ref r ∧ H r = some (.tup (c.map V.str))
theorem TpA.same {H H' : Hp} {v : V} {c : List Str} (s : Same H H') (h : TpA H v c) : TpA H' v c := by
  obtain ⟨r, rfl, hr⟩ := h
  exact ⟨r, rfl, s _ _ hr⟩
theorem TpA.mut {H : Hp} {v : V} {c : List Str} {D : Addr} {xs ys : List V} (hD : H D = some (.lst xs)) (h : TpA H v c) : TpA (upd H D (.lst ys)) v c := by
  obtain ⟨r, rfl, hr⟩ := h
  exact ⟨r, rfl, hp_mut hr (ne_of hr hD (fun z => by cases z))⟩
/-- choices of d names or fewer -/
def spChoiceT (d : Nat) : Sp := fun vs H Q _ => ∃ l ws m, vs = [.ref l, .int ((m : Nat) : Int)] ∧ H l = some (.lst ((ws : List Str).map V.str)) ∧ ws.length ≤ 10 ∧ m < d ∧ ∀ q cs H', Same H H' → H q = none → H' q = some (.lst cs) → Paired (TpA H') cs (chs m ws) → Q (.ref q) H'
def spNamesT : Sp := fun vs H Q _ => ∃ l xs ls, vs = [.ref l] ∧ H l = some (.lst xs) ∧ TLs H xs ls ∧ ls.length ≤ 40 ∧ ∀ q H', Same H H' → H q = none → H' q = some (.lst ((namesL ls).map V.str)) → Q (.ref q) H'
/-! least ways -/
/-- of some sets of names: each joins, and each that joins holds one of them -/
structure Lst (J : List Str → Prop) (L : List (List Str)) : Prop where
  each : ∀ c ∈ L, J c
  all : ∀ ns, J ns → ∃ c ∈ L, ∀ n ∈ c, n ∈ ns
theorem con_nameT {ls : List Lk} {ns : List Str} {a b : Int} (h : Con (edgL ns ls) a b) : Con (edgL ((namesL ls).filter fun n => decide (n ∈ ns)) ls) a b := by
  refine con_of (f := id) (fun l hl hn => ?_) h
  refine con_lk hl (List.mem_filter.mpr ⟨?_, decide_eq_true hn⟩)
  unfold namesL
  exact onceS_mem.mpr (List.mem_map.mpr ⟨l, hl, rfl⟩)
/-- found so far: all choices of fewer than m names, and those of cs, hold one of L, if they join -/
structure Lsf (ls : List Lk) (m : Nat) (cs L : List (List Str)) : Prop where
  each : ∀ c ∈ L, Con (edgL c ls) 0 1
  low : ∀ c, c.Sublist (namesL ls) → c.length < m → Con (edgL c ls) 0 1 → ∃ d ∈ L, ∀ n ∈ d, n ∈ c
  now : ∀ c ∈ cs, Con (edgL c ls) 0 1 → ∃ d ∈ L, ∀ n ∈ d, n ∈ c
theorem lsf_next {ls : List Lk} {m : Nat} {L : List (List Str)} (h : Lsf ls m (chs m (namesL ls)) L) : Lsf ls (m + 1) [] L := by
  refine ⟨h.each, fun c sc lc j => ?_, fun c hc => by cases hc⟩
  by_cases e : c.length < m
  · exact h.low c sc e j
  · have : c.length = m := by omega
    subst this
    exact h.now c (sub_chs sc) j
theorem lsf_end {ls : List Lk} {m : Nat} {L : List (List Str)} (h : Lsf ls m [] L) (hm : (namesL ls).length < m) : Lst (fun ns => Con (edgL ns ls) 0 1) L := by
  refine ⟨h.each, fun ns j => ?_⟩
  have sb : ((namesL ls).filter fun n => decide (n ∈ ns)).Sublist (namesL ls) := List.filter_sublist
  obtain ⟨d, hd, hs⟩ := h.low _ sb (Nat.lt_of_le_of_lt sb.length_le hm) (con_nameT j)
  exact ⟨d, hd, fun n hn => of_decide_eq_true (List.mem_filter.mp (hs n hn)).2⟩
theorem lsf_old {ls : List Lk} {m : Nat} {cs L : List (List Str)} {c : List Str} (h : Lsf ls m cs L) (o : Con (edgL c ls) 0 1 → ∃ d ∈ L, ∀ n ∈ d, n ∈ c) : Lsf ls m (cs ++ [c]) L :=
  ⟨h.each, h.low, fun d hd j => by
    rcases List.mem_append.mp hd with hd | hd
    · exact h.now d hd j
    · rw [List.mem_singleton.mp hd] at j ⊢; exact o j⟩
theorem lsf_new {ls : List Lk} {m : Nat} {cs L : List (List Str)} {c : List Str} (h : Lsf ls m cs L) (j : Con (edgL c ls) 0 1) : Lsf ls m (cs ++ [c]) (L ++ [c]) := by
  refine ⟨fun d hd => ?_, fun d s l k => ?_, fun d hd k => ?_⟩
  · rcases List.mem_append.mp hd with hd | hd
    · exact h.each d hd
    · rw [List.mem_singleton.mp hd]; exact j
  · obtain ⟨e, he, hs⟩ := h.low d s l k
    exact ⟨e, List.mem_append_left _ he, hs⟩
  · rcases List.mem_append.mp hd with hd | hd
    · obtain ⟨e, he, hs⟩ := h.now d hd k
      exact ⟨e, List.mem_append_left _ he, hs⟩
    · rw [List.mem_singleton.mp hd]
      exact ⟨c, List.mem_append_right _ (.head _), fun n hn => hn⟩
def spLeastT (K : PySem.W.Frag) : Sp := fun vs H Q _ => ∃ l xs ls, vs = [.ref l] ∧ H l = some (.lst xs) ∧ TLs H xs ls ∧ ls.length ≤ 10 ∧ ∀ q cs L H', Same H H' → H q = none → H' q = some (.lst cs) → Paired (TpA H') cs L → L.length ≤ 20000 → Lst (fun ns => Con (edgL ns ls) 0 1) L → Q (.ref q) H'
/-! links of a tree, as the laws lay them -/
def layT : Tr → Int → Int → Int → List Lk × Int
  | .leaf n, u, v, f => ([(n, u, v)], f)
  | .two false a b, u, v, f => ((layT a u v f).1 ++ (layT b u v (layT a u v f).2).1, (layT b u v (layT a u v f).2).2)
  | .two true a b, u, v, f => ((layT a u f (f + 1)).1 ++ (layT b f v (layT a u f (f + 1)).2).1, (layT b f v (layT a u f (f + 1)).2).2)
end RR
set_option maxHeartbeats 4000000
namespace RR
open PySem PySem.Spec PyProof.Rows L2
open LamX
/-! ### what is no link, what is no row of links -/
section
variable {K : PySem.W.Frag} {H : Hp} {q : Addr}
end
def spOddL (K : PySem.W.Frag) : Sp := fun vs H Q _ => ∃ p c ns a g x, vs = [.ref p, .str x] ∧ PenAt H p c ns a g ∧ a ≤ 98000 ∧ Nm x ∧ ∀ v a' g' H', H' p = some (pen c a' g') → Keep p H H' → OddL K (delH H' p) v → a ≤ a' → a' ≤ a + 1 → Q v H'
end RR
set_option maxHeartbeats 4000000
namespace RR
open PySem PySem.Spec PyProof.Rows L2
open LamX
/-! ### rows of links that are refused -/
def Refd (K : PySem.W.Frag) (BW TM : Addr) (H : Hp) (xs : List V) (C : Addr) (f : Str) (iv : V) : Prop :=
  (14 < xs.length ∧ xs.length < 1000 ∧ C = TM ∧ f = "most" ∧ iv = .int 14) ∨
  (xs.length ≤ 14 ∧ C = BW ∧ f = "at" ∧ ∃ (j : Nat) (w : V), iv = .int (j : Nat) ∧ xs[j]? = some w ∧ OddL K H w ∧ ∀ i u, i < j → xs[i]? = some u → ∃ l, TL H u l ∧ Lok l)
/-- links with a wrong one put among them -/
def bentL (vs : List V) (n : Nat) (v1 v2 : V) (r : Nat) : List V := ((vs.take n ++ [v1]) ++ vs.drop n) ++ List.replicate r v2
theorem mid_cut (vs : List V) (n : Nat) : cutV vs none (some (n : Int)) = vs.take n ∧ cutV vs (some (n : Int)) none = vs.drop n := by
  unfold cutV
  rw [HT.sIx_none, HT.sIx_nat, HT.sIx_none, HT.sIx_nat, List.drop_zero, Nat.sub_zero]
  by_cases h : n ≤ vs.length
  · rw [Nat.min_eq_left h]
    exact ⟨rfl, List.take_of_length_le (by rw [List.length_drop]; omega)⟩
  · rw [Nat.min_eq_right (by omega), List.take_length, Nat.sub_self, List.take_zero, List.take_of_length_le (by omega), List.drop_of_length_le (by omega)]
    exact ⟨rfl, rfl⟩
def rTupOf (K : PySem.W.Frag) : List V → Hp → VK → Prop := fun xs H Q => ∃ p ys, xs = [.ref p] ∧ ((SqL K H p ys ∧ ∀ l, H l = none → Q (.ref l) (upd H l (.tup ys))) ∨ (SqT K H p ys ∧ Q (.ref p) H))
end RR
set_option maxHeartbeats 4000000
namespace RR
open PySem PySem.Spec PyProof.Rows L2
open LamX
/-! ### drawn links whose names are among seven -/
def seven : List Str := [Str.ofString "a", Str.ofString "ab", Str.ofString "b", Str.ofString "c", Str.ofString "m", Str.ofString "zz", Str.ofString "n"]
def PP (n : Str) : Prop := Nm n ∧ n ∈ seven
structure LokP (k : Lk) : Prop where
  nm : PP k.1
  u : 0 ≤ k.2.1 ∧ k.2.1 ≤ 99
  v : 0 ≤ k.2.2 ∧ k.2.2 ≤ 99
theorem LokP.lok {k : Lk} (h : LokP k) : Lok k := ⟨h.nm.1, h.u, h.v⟩
theorem pp_n : PP (Str.ofString "n") := ⟨nm_n, by unfold seven; simp⟩
theorem pp_abc : ∀ n ∈ [Str.ofString "a", Str.ofString "ab", Str.ofString "b", Str.ofString "c", Str.ofString "m", Str.ofString "zz"], PP n := fun n hn => ⟨abc6_ok n hn, by
  unfold seven
  simp only [List.mem_cons, List.not_mem_nil, or_false] at hn ⊢
  rcases hn with h | h | h | h | h | h
  · exact .inl h
  · exact .inr (.inl h)
  · exact .inr (.inr (.inl h))
  · exact .inr (.inr (.inr (.inl h)))
  · exact .inr (.inr (.inr (.inr (.inl h))))
  · exact .inr (.inr (.inr (.inr (.inr (.inl h)))))⟩
def spLaidP (d : Nat) : Sp := fun vs H Q _ => ∃ x t u v f, vs = [x, .int u, .int v, .int f] ∧ TrV H t x ∧ t.dep < d ∧ (∀ n ∈ t.nms, PP n) ∧ 0 ≤ u ∧ u ≤ 99 ∧ 0 ≤ v ∧ v ≤ 99 ∧ 0 ≤ f ∧ f + t.nms.length ≤ 90 ∧
  ∀ q l f' xs ls H', Same H H' → H q = none → H l = none → H' q = some (.lst [.ref l, .int f']) → H' l = some (.lst xs) → TLs H' xs ls → (∀ k ∈ ls, LokP k) → ls.length = t.nms.length → f ≤ f' → f' + 1 ≤ f + t.nms.length → Q (.ref q) H'
def spNetP : Sp := fun vs H Q _ => ∃ p c ns a g l ws, vs = [.ref p, .ref l] ∧ PenAt H p c ns a g ∧ H l = some (.lst ((ws : List Str).map V.str)) ∧ l ≠ p ∧ ws.length ≤ 10 ∧ (∀ n ∈ ws, PP n) ∧ a ≤ 95000 ∧
  ∀ q xs ls a' g' H', H' p = some (pen c a' g') → Keep p H H' → H q = none → H' q = some (.lst xs) → TLs H' xs ls → (∀ k ∈ ls, LokP k) → ls.length = ws.length → a ≤ a' → a' ≤ a + 50 → Q (.ref q) H'
def spLinksP : Sp := fun vs H Q _ => ∃ p c ns a g l ws, vs = [.ref p, .ref l] ∧ PenAt H p c ns a g ∧ H l = some (.lst ((ws : List Str).map V.str)) ∧ l ≠ p ∧ 1 ≤ ws.length ∧ ws.length ≤ 10 ∧ (∀ n ∈ ws, PP n) ∧ a ≤ 94000 ∧
  ∀ q xs ls a' g' H', H' p = some (pen c a' g') → Keep p H H' → q ≠ p → H' q = some (.lst xs) → TLs H' xs ls → (∀ k ∈ ls, LokP k) → ls.length = ws.length → a ≤ a' → a' ≤ a + 60 → Q (.ref q) H'
def spBentP : Sp := fun vs H Q _ => ∃ p c ns a g l xs ls, vs = [.ref p, .ref l] ∧ PenAt H p c ns a g ∧ H l = some (.lst xs) ∧ TLs H xs ls ∧ (∀ k ∈ ls, LokP k) ∧ l ≠ p ∧ ls.length ≤ 11 ∧ a ≤ 95000 ∧
  ∀ q xs' ls' a' g' H', H' p = some (pen c a' g') → Keep p H H' → q ≠ p → H' q = some (.lst xs') → TLs H' xs' ls' → (∀ k ∈ ls', LokP k) → ls'.length ≤ ls.length + 1 → a ≤ a' → a' ≤ a + 5 → Q (.ref q) H'
structure LkP (H : Hp) (p r : Addr) (ls : List Lk) : Prop where
  ne : r ≠ p
  at_ : ∃ xs, H r = some (.lst xs) ∧ TLs H xs ls
  ok : ∀ k ∈ ls, LokP k
theorem LkP.pen {H H' : Hp} {p c r : Addr} {ns : List Int} {a g : Int} {ls : List Lk} (h : LkP H p r ls) (W : PenAt H p c ns a g) (k : Keep p H H') : LkP H' p r ls := by
  obtain ⟨xs, h1, h2⟩ := h.at_
  exact ⟨h.ne, ⟨xs, k _ _ h1 h.ne, h2.st (StT.pen W k)⟩, h.ok⟩
theorem LkP.same {H H' : Hp} {p r : Addr} {ls : List Lk} (h : LkP H p r ls) (s : Same H H') : LkP H' p r ls := by
  obtain ⟨xs, h1, h2⟩ := h.at_
  exact ⟨h.ne, ⟨xs, s _ _ h1, h2.st (StT.same s)⟩, h.ok⟩
def spPairP : Sp := fun vs H Q _ => ∃ p c ns a g, vs = [.ref p] ∧ PenAt H p c ns a g ∧ a ≤ 90000 ∧
  ∀ q r1 r2 ls1 ls2 a' g' H', H' p = some (pen c a' g') → Keep p H H' → q ≠ p → H' q = some (.lst [.ref r1, .ref r2]) → LkP H' p r1 ls1 → LkP H' p r2 ls2 → ls1.length ≤ 5 → ls2.length ≤ 7 → a ≤ a' → a' ≤ a + 200 → Q (.ref q) H'
/-- the webs that law k54 draws: at most seven places, names among seven -/
def Few7 (s : Sh) : Prop := siz s ≤ 7 ∧ ∀ n ∈ nmS s, n ∈ seven
end RR
namespace RR
open PySem PySem.Spec PyProof.Rows L2
open LamX
def nine : List Str := [Str.ofString "b", Str.ofString "d", Str.ofString "e", Str.ofString "f", Str.ofString "g", Str.ofString "h", Str.ofString "i", Str.ofString "j", Str.ofString "k"]
def spLongB (C aO aS : Addr) : Sp := fun vs H Q _ => ∃ p c ns a g, vs = [.ref p, .int 9] ∧ PenAt H p c ns a g ∧ a ≤ 90000 ∧
  ∀ q x y s t a' g' H', H' p = some (pen c a' g') → Keep p H H' → q ≠ p → H' q = some (.lst [.ref x, .ref y]) → WebB C aO aS H' x s → WebB C aO aS H' y t → siz s ≤ 11 → siz t ≤ 11 → a ≤ a' → a' ≤ a + 20 → Q (.ref q) H'
/-- links of names side by side -/
def sides (ns : List Str) : List Lk := ns.map fun n => (n, 0, 1)
end RR
set_option maxHeartbeats 4000000
namespace RR
open PySem PySem.Spec PyProof.Rows L2
open LamX
/-! ### the same web made from its end, its links turned about -/
def tnL (l : Lk) : Lk := (l.1, l.2.2, l.2.1)
/-! ### promises of k14 -/
def spKeyL : Sp := fun vs H Q _ => ∃ v s, vs = [v] ∧ ShV .pl H s v ∧ Lay 19 s ∧ ∀ H', Same H H' → Q (.str (keyS s)) H'
def Plan14 (s : Sh) : Prop := Pln s ∧ Rd_ 17 s ∧ siz s ≤ 14
def spEqualL : Sp := fun vs H Q _ => ∃ pn v u s t, vs = [pn, v, u] ∧ ShV .pl H s v ∧ ShV .pl H t u ∧ Plan14 s ∧ Plan14 t ∧ ∀ H', Same H H' → Q (.bl true) H'
end RR
set_option maxHeartbeats 4000000
namespace RR
open PySem PySem.Spec PyProof.Rows L2
open LamX
/-! ### a text has a square bracket where the web has a net -/
/-! ### a name that is otherwise -/
/-! ### what a web tells of its places and names, shown -/
/-- the web tells them rightly -/
def spToldL : Sp := fun vs H Q _ => ∃ pn v s l ws, vs = [pn, v, .ref l] ∧ ShV .pl H s v ∧ Plan14 s ∧ NmsAt H l ws ∧ ∀ H', Same H H' → Q (.bl true) H'
end RR
set_option maxHeartbeats 4000000
namespace RR
open PySem PySem.Spec PyProof.Rows L2
open LamX
/-! ### lists of bools, names among texts -/
theorem lay_texts {ns : List Str} (h : ∀ z ∈ ns, Nm z) : PyData.canLay0 (.list (ns.map PyData.str)) = true ∧ PyData.canLay0 (.tuple (ns.map PyData.str)) = true := by
  have := strs_lay h
  exact ⟨by rw [PyData.canLay0, this], by rw [PyData.canLay0, this]⟩
theorem join_low {y : Str} (hy : LowS y) : ∀ {xs : List Str}, (∀ x ∈ xs, LowS x) → LowS (Txt.join y xs)
  | [], _ => fun c hc => by
    rw [show (Txt.join y []).cps.toList = [] from by unfold Txt.join; rw [StrLaws.glued_eq_join]; rfl] at hc
    cases hc
  | [x], h => by rw [join_one]; exact h x (.head _)
  | x :: z :: r, h => fun c hc => by
    have hc : c ∈ cs (Txt.join y (x :: z :: r)) := hc
    rw [join_more, List.mem_append, List.mem_append] at hc
    rcases hc with hc | hc | hc
    · exact h x (.head _) c hc
    · exact hy c hc
    · exact join_low hy (fun w hw => h w (.tail _ hw)) c hc
theorem small_low (x : Str) (h : x.cps.toList.all (fun c => decide (c < 127)) = true) : LowS x := fun c hc => of_decide_eq_true (List.all_eq_true.mp h c hc)
end RR
set_option maxHeartbeats 4000000
namespace RR
open PySem PySem.Spec PyProof.Rows L2
open LamX
theorem lookup_rl {env : Env} : ∀ {names : List (Str × NameKind)} {x : Str}, names.lookup x = some .cell ∨ names.lookup x = some .free →
    (names.map fun (n, k) => if (k == NameKind.free && env.scope.kind == .function && env.kindOf n == some .cell) then (n, NameKind.cell) else (n, k)).lookup x = some .cell ∨ (names.map fun (n, k) => if (k == NameKind.free && env.scope.kind == .function && env.kindOf n == some .cell) then (n, NameKind.cell) else (n, k)).lookup x = some .free
  | [], _, h => by simp at h
  | (n, k) :: r, x, h => by
    have ih := @lookup_rl env r x
    show List.lookup x ((if (k == NameKind.free && env.scope.kind == .function && env.kindOf n == some .cell) = true then (n, NameKind.cell) else (n, k)) :: _) = _ ∨ List.lookup x ((if (k == NameKind.free && env.scope.kind == .function && env.kindOf n == some .cell) = true then (n, NameKind.cell) else (n, k)) :: _) = _
    cases hx : x == n with
    | true =>
      simp only [List.lookup_cons, hx] at h
      by_cases hc : (k == NameKind.free && env.scope.kind == .function && env.kindOf n == some .cell) = true
      · rw [if_pos hc]; simp only [List.lookup_cons, hx]; exact .inl trivial
      · rw [if_neg hc]; simp only [List.lookup_cons, hx]; exact h
    | false =>
      simp only [List.lookup_cons, hx] at h
      by_cases hc : (k == NameKind.free && env.scope.kind == .function && env.kindOf n == some .cell) = true
      · rw [if_pos hc]; simp only [List.lookup_cons, hx]; exact ih h
      · rw [if_neg hc]; simp only [List.lookup_cons, hx]; exact ih h
/-- a comprehension within a comprehension -/
theorem blkOk_in {N : List Str} {sc scope : Scope} {cl : List (Str × Addr)} {C : Addr} {env : Env} {own : List (Str × Nat)} (h : blkC N sc scope own = true) : BlkOk N (compEnvC sc cl C env).scope scope own := by
  have b : BlkOk N sc scope own := blkOk_by h
  exact ⟨b.kind, b.uniq, b.ix, fun y hy e => lookup_rl (b.free y hy e), b.own⟩
/-! ### sites: a web, its links as the law has them, its least ways -/
/-- what a site says of its web -/
structure SiteS (s : Sh) (ol : Option (List Lk)) (L : List (List Str)) : Prop where
  nrm : Nrm s
  lst : Lst (fun ns => joinsB ns s) L
  lks : match ol with | none => s = .opn | some ls => ∀ ns, joinsB ns s ↔ Con (edgL ns ls) 0 1
theorem netB_con {ls : List Lk} (h : ∀ k ∈ ls, Lok k) {ns : List Str} : joinsB ns (netB ls) ↔ Con (edgL ns ls) 0 1 := by
  have n := netB_nrm h
  rw [joins_ev n]
  unfold netB
  split
  · rename_i e
    subst e
    rw [evS]
    refine ⟨False.elim, fun c => ?_⟩
    rcases con_jof c with z | ⟨p, hp, _⟩
    · exact absurd z (by decide)
    · cases hp
  · rw [evS, con_ord]
end RR
namespace RR
theorem flat_le {α β : Type} {f : α → List β} {B : Nat} : ∀ {l : List α}, (∀ x ∈ l, (f x).length ≤ B) → (l.flatMap f).length ≤ l.length * B
  | [], _ => Nat.zero_le _
  | x :: l, h => by
    rw [List.flatMap_cons, List.length_append, List.length_cons, Nat.succ_mul]
    have := flat_le (l := l) (f := f) (B := B) fun y hy => h y (List.mem_cons_of_mem _ hy)
    have := h x (.head _)
    omega
end RR
namespace RR
open PySem PySem.Spec PyProof.Rows L2
open LamX
/-! data of choices -/
def dTp (c : List Str) : PyData := .tuple (c.map PyData.str)
theorem TpA.dp {K : PySem.W.Frag} {H : Hp} {v : V} {c : List Str} (h : TpA H v c) : Dp K H v (dTp c) := by
  obtain ⟨r, rfl, hr⟩ := h
  exact .tup (SqT.of hr) (dp_strsT c)
theorem tps_dp {K : PySem.W.Frag} {H : Hp} : ∀ {cs : List V} {L : List (List Str)}, Paired (TpA H) cs L → DpAll K H cs (L.map dTp)
  | _, _, .nil => .nil
  | _, _, .cons h t => .cons h.dp (tps_dp t)
theorem strs_depX : ∀ ns : List Str, PyData.depthAll (ns.map PyData.str) = 0
  | [] => rfl
  | n :: r => by show max 0 (PyData.depthAll (r.map PyData.str)) = 0; rw [strs_depX r]; rfl
theorem strs_shapedX {ns : List Str} (h : ∀ z ∈ ns, Nm z) : SeqAt.shaped (.list (ns.map PyData.str)) = true := by
  unfold SeqAt.shaped
  rw [Bool.and_eq_true]
  refine ⟨(lay_texts h).1, decide_eq_true ?_⟩
  show PyData.depthAll (ns.map PyData.str) + 1 ≤ 64
  rw [strs_depX]
  omega
theorem tps_lay : ∀ {L : List (List Str)}, (∀ c ∈ L, ∀ n ∈ c, Nm n) → PyData.canLayAll0 (L.map dTp) = true
  | [], _ => rfl
  | c :: L, h => by
    show ((dTp c).canLay0 && PyData.canLayAll0 (L.map dTp)) = true
    rw [tps_lay fun d hd => h d (List.mem_cons_of_mem _ hd), show (dTp c).canLay0 = true from (lay_texts (h c (.head _))).2]
    rfl
theorem tps_dep : ∀ L : List (List Str), PyData.depthAll (L.map dTp) ≤ 1
  | [] => Nat.zero_le _
  | c :: L => by
    show max (PyData.depthAll (c.map PyData.str) + 1) (PyData.depthAll (L.map dTp)) ≤ 1
    have := tps_dep L
    rw [strs_depX]
    omega
theorem tps_shaped {L : List (List Str)} (h : ∀ c ∈ L, ∀ n ∈ c, Nm n) : SeqAt.shaped (.list (L.map dTp)) = true := by
  unfold SeqAt.shaped
  rw [Bool.and_eq_true]
  refine ⟨?_, decide_eq_true ?_⟩
  · rw [PyData.canLay0]; exact tps_lay h
  · show PyData.depthAll (L.map dTp) + 1 ≤ 64
    have := tps_dep L
    omega
theorem eqv_nilX {α : Type} (f : α → PyData) (l : List α) : PyData.eqv (.list (l.map f)) (.list []) = l.isEmpty := by
  cases l with
  | nil => simp only [List.map_nil, PyData.eqv, PyData.eqvAll, List.isEmpty_nil]
  | cons n r => simp only [List.map_cons, PyData.eqv, PyData.eqvAll, List.isEmpty_cons]
theorem filter_snocB {α : Type} {p : α → Bool} {l : List α} {i : Nat} {x : α} (e : l[i]? = some x) : (l.take (i + 1)).filter p = (l.take i).filter p ++ if p x = true then [x] else [] := by
  rw [List.take_add_one, e, Option.toList_some, List.filter_append, List.filter_cons, List.filter_nil]
def spLeastN (K : PySem.W.Frag) : Sp := fun vs H Q _ => ∃ l xs ls, vs = [.ref l] ∧ H l = some (.lst xs) ∧ TLs H xs ls ∧ (∀ k ∈ ls, Lok k) ∧ ls.length ≤ 10 ∧ ∀ q cs L H', Same H H' → H q = none → H' q = some (.lst cs) → Paired (TpA H') cs L → L.length ≤ 20000 → (∀ c ∈ L, c.length ≤ 10 ∧ ∀ n ∈ c, Nm n) → Lst (fun ns => Con (edgL ns ls) 0 1) L → Q (.ref q) H'
theorem names_len (ls : List Lk) : (namesL ls).length ≤ ls.length := by
  unfold namesL
  have := onceS_len (ls.map fun l => l.1)
  rw [List.length_map] at this
  exact this
end RR
namespace RR
theorem filter_no {α : Type} (p : α → Bool) : ∀ l : List α, (l.filter fun x => !p x).isEmpty = l.all p
  | [] => rfl
  | x :: l => by
    rw [List.filter_cons, List.all_cons]
    cases h : p x
    · simp
    · simp [filter_no p l]
end RR
namespace RR
open PySem PySem.Spec PyProof.Rows L2
open LamX
/-- _law_laid(tree, u, v, first), told exactly -/
def spLaidX (d : Nat) : Sp := fun vs H Q _ => ∃ x t u v f, vs = [x, .int u, .int v, .int f] ∧ TrV H t x ∧ t.dep < d ∧ t.nms.length ≤ 90 ∧
  ∀ q l xs H', Same H H' → H q = none → H l = none → H' q = some (.lst [.ref l, .int (layT t u v f).2]) → H' l = some (.lst xs) → TLs H' xs (layT t u v f).1 → Q (.ref q) H'
end RR
set_option maxHeartbeats 4000000
namespace RR
open PySem PySem.Spec PyProof.Rows L2
/-! ### set(t), t a tuple of numbers or of texts -/
section
variable {P : Program} {w : World} {A : Around} {E : Value → Shared → Prop}
variable {s : Shared}
theorem makes_keysT {l : Addr} {us : List Value} {js : List Key} {Q : Value → Shared → Prop} (calm : A.handled = none) (isl : s.heap.IsTuple l us.toArray) (are : ∀ (i : Nat) (v : Value), us[i]? = some v → ∃ k, js[i]? = some k ∧ keyIs k v = true) (len : js.length = us.length) (few : us.length + 1 < scanBound)
    (q : ∀ h' tk ks, KeySet P w h' s.heap.objs.size ks → (∀ k, k ∈ ks ↔ k ∈ js) → (∀ b o, s.heap.get? b = some o → h'.get? b = some o) → Q (.ref s.heap.objs.size) { s with heap := h', toks := tk }) : wpAny (model P w) A (call (.type "set") [.ref l]) Q E s := by
  obtain ⟨_, _, line⟩ := F.called_set.mro
  have f1 := F.called_set.made
  have f2 := F.called_set.sub
  have f3 := F.called_set.notType
  have f4 := F.called_set.canCreate
  have f5 := F.typeCall_set_1 (.ref l)
  refine wpAny_call (codeAny_of_tree ?_)
  show wpAny _ _ (callAny (.type "set") _) _ _ _
  refine wpAny_pure ⟨Code.quiet_builtin _ (by decide +kernel), codeAny_builtin F.entry_type_call ?_⟩
  rw [Around.under_plain (weight_type_call_type "set" [.ref l] []) rfl]
  repeat any_goals first | assumption | wp_step
  refine codeAny_mono (code_set_led1 (.ref l) (E := E) (Q₁ := fun ob z => ob = .ref s.heap.objs.size ∧ z = { s with heap := s.heap.push (noneYet w) }) ⟨rfl, rfl⟩) fun r z hz => ?_
  match r, hz with
  | .ok (.ret ob), hz =>
    obtain ⟨rfl, rfl⟩ := hz
    have lookS : (s.heap.push (noneYet w)).get? s.heap.objs.size = some (noneYet w) := Heap.get?_push_size _ rfl
    have isSet : Shared.TypeIs { s with heap := s.heap.push (noneYet w) } (.ref s.heap.objs.size) "set" := ⟨_, lookS, rfl⟩
    have g1 := F.called_set.init.lookup
    have g2 := F.called_set.init.bind (.ref s.heap.objs.size)
    dsimp only
    repeat any_goals first | assumption | wp_step
    refine codeAny_mono (codeAny_call_builtin (R := wants (fun v z => v = .none ∧ ∃ h' tk ks, z = { s with heap := h', toks := tk } ∧ KeySet P w h' s.heap.objs.size ks ∧ (∀ k, k ∈ ks ↔ k ∈ js) ∧ ∀ b o, s.heap.get? b = some o → h'.get? b = some o) E) F.called_set.init.plain F.entry_set_init (check_set_init_1 isSet ?_)) fun r2 z2 hz2 => ?_
    · obtain ⟨ol, lookL, clsL, nL, datL⟩ := isl
      obtain ⟨c1, d1, dt1, sl1⟩ := ol
      obtain rfl : c1 = .type "tuple" := clsL
      obtain rfl : dt1 = .seq us.toArray nL := datL
      have lookL2 : (s.heap.push (noneYet w)).get? l = some { cls := .type "tuple", dict := d1, data := .seq us.toArray nL, slots := sl1 } := Heap.get?_push_of_some _ lookL
      have u1 := F.sub_tuple_set
      have u2 := F.sub_tuple_frozenset
      have u3 : (Value.type "tuple" == Value.type "dict") = false := rfl
      have isL2 : (s.heap.push (noneYet w)).IsTuple l us.toArray := ⟨_, lookL2, rfl, nL, rfl⟩
      unfold Builtin.«set.__init__» noKeywords Builtin.Frozenset.updateFrom
      generalize hit : pyIter = it
      wp_walk
      subst hit
      refine wpAny_pyIter_tuple isL2 ?_
      refine wpAny_bind (wpAny_runValue ?_)
      have below : l < s.heap.objs.size := Heap.lt_size lookL
      have sz : (s.heap.push (noneYet w)).objs.size = s.heap.objs.size + 1 := Heap.size_push ..
      have calm3 : A.in1.in1.in1.handled = none := by simp [calm]
      have none_at : ∀ b, s.heap.objs.size ≤ b → s.heap.get? b = none := fun b hb => by
        cases e : s.heap.get? b with
        | none => rfl
        | some o => exact (Nat.lt_irrefl b (Nat.lt_of_lt_of_le (Heap.lt_size e) hb)).elim
      refine puts_keys (js := js) (h0 := s.heap) ((Walks.tuple calm3 _ l (by rw [sz]; exact Nat.ne_of_lt (Nat.lt_succ_of_lt below)) us.toArray).toS) (by rw [sz]; simp only [List.mem_cons, List.not_mem_nil, or_false]; exact fun z => z.elim (Nat.ne_of_lt (Nat.lt_succ_self _)) (Nat.ne_of_gt below)) (by simpa using len) (by simpa using few) (fun i v hv => are i v (by rwa [List.getElem?_toArray] at hv)) (none_at _ (Nat.le_refl _)) (fun b hb => none_at b (by rw [List.mem_singleton.mp hb, sz]; exact Nat.le_succ _)) js.length 0 _ (by simp [len]) ⟨⟨_, Heap.get?_push_size _ rfl, rfl, rfl⟩, isL2.push _⟩ (fun b o e => Heap.get?_push_of_some _ (Heap.get?_push_of_some _ e)) ⟨[], no_keys (Heap.get?_push_of_some _ lookS), Nat.le_refl _, fun k => by rw [List.take_zero]⟩ fun s' ks B mem keep mv => ?_
      obtain ⟨h', g', d', tk', os'⟩ := s'
      obtain rfl : g' = s.gens := mv.gens
      obtain rfl : d' = s.drawn := mv.drawn
      obtain rfl : os' = s.os := mv.os
      refine wpAny_pure ?_
      exact wpAny_pure ⟨rfl, h', tk', ks, rfl, B, mem, keep⟩
    · match r2, hz2 with
      | .ok (.ret v), hz2 =>
        obtain ⟨rfl, h', tk, ks, rfl, B, mem, keep⟩ := hz2
        dsimp only
        repeat any_goals first | assumption | wp_step
        exact q h' tk ks B mem keep
      | .error e, hz2 => exact hz2
      | .ok .next, hz2 => exact hz2.elim
      | .ok .brk, hz2 => exact hz2.elim
      | .ok .cont, hz2 => exact hz2.elim
  | .error e, hz => exact hz
  | .ok .next, hz => exact hz.elim
  | .ok .brk, hz => exact hz.elim
  | .ok .cont, hz => exact hz.elim
end
section
variable {X : Cx}
/-- set(v), v a list or a tuple of whole numbers and texts -/
def rSetV (K : PySem.W.Frag) (P : Program) (w : World) : List V → Hp → VK → Prop := fun vs H Q => ∃ l js, vs = [.ref l] ∧ (SqL K H l ((js : List Key).map kV) ∨ SqT K H l (js.map kV)) ∧ js.length < 1000 ∧ ∀ a ks, H a = none → (∀ k, k ∈ ks ↔ k ∈ js) → Q (.ref a) (upd H a (KeysO P w a ks))
theorem cr_setV (hc : X.calm = true) : CallR X (.type "set") (rSetV X.K X.prog X.w) := by
  intro pins s σ H vs us Q I rv h
  obtain ⟨l, js, rfl, hl, few, q⟩ := h
  rcases hl with hl | hl
  · exact cr_setK hc pins s σ H [.ref l] us Q I rv ⟨l, js, rfl, hl, few, q⟩
  rw [Vals.ref1 rv]
  obtain ⟨its, rits, pl, _⟩ := I.tuple hl
  obtain ⟨len, are⟩ := vals_keys rits
  have fresh : H s.heap.objs.size = none := I.hok.fresh (Nat.le_refl _)
  exact makes_keysT (I.ok.hd hc) pl are len.symm (by unfold scanBound; omega) fun h' tk ks B mem keep =>
    ⟨.ref s.heap.objs.size, upd H s.heap.objs.size (KeysO X.prog X.w s.heap.objs.size ks), I.laid (t' := tk) keep (Nat.le_refl _) (keys_told B), rfl, q _ ks fresh mem⟩
end
end RR
set_option maxHeartbeats 4000000
namespace RR
open PySem PySem.Spec PyProof.Rows L2
open LamX
/-! ### k52: ways and cuts that are given: names in tuples, and things that are none -/
theorem names_pp {ls : List Lk} (h : ∀ k ∈ ls, LokP k) : ∀ n ∈ namesL ls, PP n := fun n hn => by
  unfold namesL at hn
  obtain ⟨k, hk, rfl⟩ := List.mem_map.mp (onceS_mem.mp hn)
  exact (h k hk).nm
def spLeastP (K : PySem.W.Frag) : Sp := fun vs H Q _ => ∃ l xs ls, vs = [.ref l] ∧ H l = some (.lst xs) ∧ TLs H xs ls ∧ (∀ k ∈ ls, LokP k) ∧ ls.length ≤ 10 ∧ ∀ q cs L H', Same H H' → H q = none → H' q = some (.lst cs) → Paired (TpA H') cs L → L.length ≤ 20000 → (∀ c ∈ L, c.length ≤ 10 ∧ ∀ n ∈ c, PP n) → Lst (fun ns => Con (edgL ns ls) 0 1) L → Q (.ref q) H'
def oddT : List Str := [Str.ofString "", Str.ofString "A", Str.ofString "net", Str.ofString "abcdefghi"]
theorem odd_no : ∀ x ∈ oddT, isName x = false := by decide +kernel
theorem odd_not : ∀ x ∈ oddT, x ∉ seven := by decide +kernel
theorem seven_yes : ∀ x ∈ seven, isName x = true := by decide +kernel
theorem so_ok : ∀ x ∈ seven ++ oddT, PyData.strOk x = true := by decide +kernel
theorem so_ln : ∀ x ∈ seven ++ oddT, x.length ≤ 9 := by decide +kernel
theorem so_low : ∀ x ∈ seven ++ oddT, x.cps.toList.all (fun c => decide (c < 127)) = true := by decide +kernel
theorem lows {x : Str} (h : x ∈ seven ++ oddT) : LowS x := small_low x (so_low x h)
theorem in7 {x : Str} (h : x ∈ seven) : x ∈ seven ++ oddT := List.mem_append_left _ h
theorem inO {x : Str} (h : x ∈ oddT) : x ∈ seven ++ oddT := List.mem_append_right _ h
theorem nm_seven7 : ∀ x ∈ seven, Nm x := fun x hx => by
  unfold seven at hx
  simp only [List.mem_cons, List.not_mem_nil, or_false] at hx
  rcases hx with rfl | rfl | rfl | rfl | rfl | rfl | rfl
  · exact abc6_ok _ (.head _)
  · exact abc6_ok _ (.tail _ (.head _))
  · exact abc6_ok _ (.tail _ (.tail _ (.head _)))
  · exact abc6_ok _ (.tail _ (.tail _ (.tail _ (.head _))))
  · exact abc6_ok _ (.tail _ (.tail _ (.tail _ (.tail _ (.head _)))))
  · exact abc6_ok _ (.tail _ (.tail _ (.tail _ (.tail _ (.tail _ (.head _))))))
  · exact nm_n
/-- what a tuple may hold -/
inductive Itm (H : Hp) : V → PyData → Prop
  | txt {x : Str} : x ∈ seven ++ oddT → Itm H (.str x) (.str x)
  | zero : Itm H (.int 0) (.int 0)
  | yes : Itm H (.bl true) (.bool true)
  | non : Itm H .non .none
  | tup {a : Addr} {ts : List Str} : H a = some (.tup (ts.map V.str)) → (∀ t ∈ ts, t ∈ seven) → ts.length ≤ 10 → Itm H (.ref a) (.tuple (ts.map PyData.str))
def yesV : V → Bool
  | .str x => decide (x ∈ seven)
  | _ => false
theorem Itm.st {H H' : Hp} {v : V} {d : PyData} (s : StT H H') (h : Itm H v d) : Itm H' v d := by
  cases h with
  | txt h => exact .txt h
  | zero => exact .zero
  | yes => exact .yes
  | non => exact .non
  | tup e h l => exact .tup (s _ _ e) h l
theorem Itm.isn {K : PySem.W.Frag} {H : Hp} {v : V} {d : PyData} (h : Itm H v d) : (yesV v = true ∧ ∃ x, NameV v x) ∨ (yesV v = false ∧ NotName K H v) := by
  cases h with
  | txt h =>
    rename_i x
    have ln := le_line8 (n := x.length)
    rcases List.mem_append.mp h with h | h
    · exact .inl ⟨decide_eq_true h, x, rfl, by have := so_ln x (in7 h); rw [sizeLine_eq]; omega, seven_yes x h⟩
    · exact .inr ⟨decide_eq_false (odd_not x h), .inl ⟨x, rfl, by have := so_ln x (inO h); rw [sizeLine_eq]; omega, odd_no x h⟩⟩
  | zero => exact .inr ⟨rfl, .inr ⟨_, .base (.int 0), kit_ty (by decide +kernel)⟩⟩
  | yes => exact .inr ⟨rfl, .inr ⟨_, .base (.bl true), kit_ty (by decide +kernel)⟩⟩
  | non => exact .inr ⟨rfl, .inr ⟨_, .base .non, kit_ty (by decide +kernel)⟩⟩
  | tup e h l => exact .inr ⟨rfl, .inr ⟨_, .base (.tup e), kit_ty (by decide +kernel)⟩⟩
theorem strs_lay7 : ∀ {ns : List Str}, (∀ z ∈ ns, z ∈ seven ++ oddT) → PyData.canLayAll0 (ns.map PyData.str) = true
  | [], _ => rfl
  | n :: r, h => by
    show ((PyData.str n).canLay0 && PyData.canLayAll0 (r.map PyData.str)) = true
    rw [strs_lay7 fun z hz => h z (.tail _ hz), PyData.canLay0, so_ok n (h n (.head _))]
    rfl
theorem strs_shows7 : ∀ {ns : List Str}, (∀ z ∈ ns, z ∈ seven ++ oddT) → ShowsAllQ 100 0 (ns.map PyData.str)
  | [], _ => .nil
  | n :: r, h => .cons (shQ_str (lows (h n (.head _))) (by have := so_ln n (h n (.head _)); omega)) (strs_shows7 fun z hz => h z (.tail _ hz))
theorem strs_nodict : ∀ ns : List Str, PyData.hasDictAll (ns.map PyData.str) = false
  | [] => rfl
  | n :: r => by show (false || PyData.hasDictAll (r.map PyData.str)) = false; rw [strs_nodict r]; rfl
theorem Itm.data {K : PySem.W.Frag} {H : Hp} {v : V} {d : PyData} (h : Itm H v d) : Dp K H v d ∧ Dq K H v d ∧ d.canLay0 = true ∧ d.depth ≤ 1 ∧ d.hasDict = false ∧ ShowsQ 2000 1 d := by
  cases h with
  | txt h => exact ⟨.str _, .str _, so_ok _ h, Nat.zero_le _, rfl, shQ_str (lows h) (by have := so_ln _ h; omega)⟩
  | zero => exact ⟨.int 0, .int 0, rfl, Nat.zero_le _, rfl, shQ_int (sm_mono (m := 97) (by decide) (by decide)) (by decide)⟩
  | yes => exact ⟨.bl true, .bl true, rfl, Nat.zero_le _, rfl, rfl, Nat.zero_le _, by decide +kernel⟩
  | non => exact ⟨.non, .non, rfl, Nat.zero_le _, rfl, rfl, Nat.zero_le _, by decide +kernel⟩
  | tup e h l =>
    rename_i a ts
    refine ⟨.tup (SqT.of e) (dp_strsT ts), .tup (SqT.of e) (dq_strs ts), ?_, ?_, strs_nodict ts, showsQ_tup (strs_shows7 fun z hz => in7 (h z hz)) (by rw [List.length_map]; omega) (by decide)⟩
    · rw [PyData.canLay0]; exact strs_lay7 fun z hz => in7 (h z hz)
    · show PyData.depthAll (ts.map PyData.str) + 1 ≤ 1
      rw [strs_depX]; omega
theorem itms_data {K : PySem.W.Frag} {H : Hp} : ∀ {vs : List V} {ds : List PyData}, Paired (Itm H) vs ds → DpAll K H vs ds ∧ DqAll K H vs ds ∧ PyData.canLayAll0 ds = true ∧ PyData.depthAll ds ≤ 1 ∧ PyData.hasDictAll ds = false ∧ ShowsAllQ 2000 1 ds
  | _, _, .nil => ⟨.nil, .nil, rfl, Nat.zero_le _, rfl, .nil⟩
  | v :: vs, d :: ds, .cons h t => by
    obtain ⟨a1, a2, a3, a4, a5, a6⟩ := h.data (K := K)
    obtain ⟨b1, b2, b3, b4, b5, b6⟩ := itms_data (K := K) t
    refine ⟨.cons a1 b1, .cons a2 b2, ?_, ?_, ?_, .cons a6 b6⟩
    · show (d.canLay0 && PyData.canLayAll0 ds) = true
      rw [a3, b3]; rfl
    · show max d.depth (PyData.depthAll ds) ≤ 1
      omega
    · show (d.hasDict || PyData.hasDictAll ds) = false
      rw [a5, b5]; rfl
theorem itms_shaped {K : PySem.W.Frag} {H : Hp} {vs : List V} {ds : List PyData} (h : Paired (Itm H) vs ds) : SeqAt.shaped (.list ds) = true := by
  obtain ⟨_, _, a, b, _, _⟩ := itms_data (K := K) h
  unfold SeqAt.shaped
  rw [Bool.and_eq_true]
  refine ⟨by rw [PyData.canLay0]; exact a, decide_eq_true ?_⟩
  show PyData.depthAll ds + 1 ≤ 64
  omega
theorem itms_strs {H : Hp} : ∀ {ns : List Str}, (∀ n ∈ ns, n ∈ seven) → Paired (Itm H) (ns.map V.str) (ns.map PyData.str)
  | [], _ => .nil
  | n :: r, h => .cons (.txt (in7 (h n (.head _)))) (itms_strs fun z hz => h z (.tail _ hz))
/-- all are names -/
theorem all_names : ∀ {vs : List V}, (vs.all yesV) = true → ∃ ns : List Str, vs = ns.map V.str ∧ ∀ n ∈ ns, n ∈ seven
  | [], _ => ⟨[], rfl, fun n h => by cases h⟩
  | v :: r, h => by
    rw [List.all_cons, Bool.and_eq_true] at h
    obtain ⟨ns, rfl, hn⟩ := all_names h.2
    cases v with
    | str x => exact ⟨x :: ns, rfl, fun n hm => by
        rcases List.mem_cons.mp hm with rfl | hm
        · exact of_decide_eq_true h.1
        · exact hn n hm⟩
    | _ => exact absurd h.1 (fun z => by cases z)
theorem names_all : ∀ {ns : List Str}, (∀ n ∈ ns, n ∈ seven) → ((ns.map V.str).all yesV) = true
  | [], _ => rfl
  | n :: r, h => by
    rw [List.map_cons, List.all_cons, names_all fun z hz => h z (.tail _ hz)]
    show (decide (n ∈ seven) && true) = true
    rw [decide_eq_true (h n (.head _))]
    rfl
/-- what may be given as a way or a cut -/
inductive Rt (H : Hp) : V → PyData → Prop
  | tup {a : Addr} {xs : List V} {ds : List PyData} : H a = some (.tup xs) → Paired (Itm H) xs ds → xs.length ≤ 45 → Rt H (.ref a) (.tuple ds)
  | lst {a : Addr} {xs : List V} {ds : List PyData} : H a = some (.lst xs) → Paired (Itm H) xs ds → xs.length ≤ 45 → Rt H (.ref a) (.list ds)
  | txt {x : Str} : LowS x → x.length ≤ 200 → Rt H (.str x) (.str x)
  | non : Rt H .non .none
  | sev : Rt H (.int 7) (.int 7)
  | dic {a : Addr} : H a = some (.dK []) → Rt H (.ref a) (.dict [])
theorem Rt.st {H H' : Hp} {v : V} {d : PyData} (s : Same H H') (h : Rt H v d) : Rt H' v d := by
  cases h with
  | tup e p l => exact .tup (s _ _ e) (Paired.mono (fun _ _ h => h.st (StT.same s)) p) l
  | lst e p l => exact .lst (s _ _ e) (Paired.mono (fun _ _ h => h.st (StT.same s)) p) l
  | txt a b => exact .txt a b
  | non => exact .non
  | sev => exact .sev
  | dic e => exact .dic (s _ _ e)
/-- names in a tuple, in order, none twice -/
def Gd (H : Hp) (v : V) (ns : List Str) : Prop := ∃ a, v = .ref a ∧ H a = some (.tup (ns.map V.str)) ∧ (∀ n ∈ ns, n ∈ seven) ∧ onceS ns = ns
theorem Gd.same {H H' : Hp} {v : V} {ns : List Str} (s : Same H H') (h : Gd H v ns) : Gd H' v ns := by
  obtain ⟨a, e, h1, h2⟩ := h
  exact ⟨a, e, s _ _ h1, h2⟩
theorem strs_inj {a b : List Str} (h : a.map V.str = b.map V.str) : a = b := List.map_inj_right (fun x y z => V.str.inj z) |>.mp h
theorem Gd.len {H : Hp} {v : V} {ns : List Str} (h : Gd H v ns) : ns.length ≤ 7 := by
  obtain ⟨a, _, _, h2, h3⟩ := h
  have nd := onceS_one ns
  rw [h3] at nd
  exact nodup_le_of nd h2
def spAreN : Sp := fun vs H Q _ => ∃ v d, vs = [v] ∧ Rt H v d ∧ (∀ ns H', Same H H' → Gd H v ns → Q (.bl true) H') ∧ (∀ H', Same H H' → (∀ ns, ¬ Gd H v ns) → Q (.bl false) H')
theorem not_gd_all {H : Hp} {a : Addr} {xs : List V} (e : H a = some (.tup xs)) (h : ¬ (xs.all yesV = true)) : ∀ ns, ¬ Gd H (.ref a) ns := fun ns ⟨b, e1, e2, e3, _⟩ => by
  obtain rfl := V.ref.inj e1
  rw [e] at e2
  injection e2 with e2
  injection e2 with e2
  subst e2
  exact h (names_all e3)
theorem eqv_strs : ∀ a b : List Str, PyData.eqv (.list (a.map PyData.str)) (.list (b.map PyData.str)) = decide (a = b)
  | [], [] => by decide
  | [], b :: r => by rw [decide_eq_false (by simp)]; rfl
  | a :: r, [] => by rw [decide_eq_false (by simp)]; rfl
  | a :: r, b :: t => by
    have ih := eqv_strs r t
    rw [PyData.eqv] at ih ⊢
    rw [List.map_cons, List.map_cons, PyData.eqvAll, ih, PyData.eqv]
    rw [Bool.eq_iff_iff, Bool.and_eq_true, beq_iff_eq, decide_eq_true_eq, decide_eq_true_eq, List.cons.injEq]
theorem strs_shaped7 {ns : List Str} (h : ∀ n ∈ ns, n ∈ seven) : SeqAt.shaped (.list (ns.map PyData.str)) = true := strs_shapedX fun n hn => nm_seven7 n (h n hn)
end RR
set_option maxHeartbeats 4000000
namespace RR
open PySem PySem.Spec PyProof.Rows L2
open LamX
/-! ### k52: told apart by a way and a cut -/
def Apart (H : Hp) (v1 v2 : V) (s t : Sh) : Prop := ∃ ns ms, Gd H v1 ns ∧ Gd H v2 ms ∧ (∀ n ∈ ns, n ∉ ms) ∧ joinsB ns s ∧ ¬ joinsB ((onceS (nmS t)).filter fun n => !decide (n ∈ ms)) t
theorem Gd.one {H : Hp} {v : V} {ns ms : List Str} (h : Gd H v ns) (k : Gd H v ms) : ns = ms := by
  obtain ⟨a, rfl, h1, _⟩ := h
  obtain ⟨b, e, k1, _⟩ := k
  obtain rfl := V.ref.inj e
  rw [h1] at k1
  injection k1 with k1
  injection k1 with k1
  exact strs_inj k1
theorem apart_no1 {H : Hp} {v1 v2 : V} {s t : Sh} (h : ∀ ns, ¬ Gd H v1 ns) : ¬ Apart H v1 v2 s t := fun ⟨ns, _, g, _⟩ => h ns g
theorem apart_no2 {H : Hp} {v1 v2 : V} {s t : Sh} (h : ∀ ns, ¬ Gd H v2 ns) : ¬ Apart H v1 v2 s t := fun ⟨_, ms, _, g, _⟩ => h ms g
theorem apart_iff {H : Hp} {v1 v2 : V} {s t : Sh} {ns ms : List Str} (g1 : Gd H v1 ns) (g2 : Gd H v2 ms) : Apart H v1 v2 s t ↔ (∀ n ∈ ns, n ∉ ms) ∧ joinsB ns s ∧ ¬ joinsB ((onceS (nmS t)).filter fun n => !decide (n ∈ ms)) t := by
  refine ⟨fun ⟨ns', ms', h1, h2, h3⟩ => ?_, fun h => ⟨ns, ms, g1, g2, h⟩⟩
  obtain rfl := g1.one h1
  obtain rfl := g2.one h2
  exact h3
def spShowsA (C aO aS : Addr) : Sp := fun vs H Q _ => ∃ x y s t v1 v2 d1 d2, vs = [.ref x, .ref y, v1, v2] ∧ WebB C aO aS H x s ∧ WebB C aO aS H y t ∧ Rt H v1 d1 ∧ Rt H v2 d2 ∧ ∀ b H', Same H H' → (b = true ↔ Apart H v1 v2 s t) → Q (.bl b) H'
/-- links, or None for what always joins -/
def LO (H : Hp) (v : V) (o : Option (List Lk)) : Prop := (v = .non ∧ o = none) ∨ ∃ l xs ls, v = .ref l ∧ o = some ls ∧ H l = some (.lst xs) ∧ TLs H xs ls ∧ (∀ k ∈ ls, LokP k) ∧ ls.length ≤ 10
theorem LO.same {H H' : Hp} {v : V} {o : Option (List Lk)} (s : Same H H') (h : LO H v o) : LO H' v o := by
  rcases h with h | ⟨l, xs, ls, e1, e2, e3, e4, e5⟩
  · exact .inl h
  · exact .inr ⟨l, xs, ls, e1, e2, s _ _ e3, e4.st (StT.same s), e5⟩
def shO : Option (List Lk) → Sh
  | none => .opn
  | some ls => netB ls
theorem joins_opnB (ns : List Str) : joinsB ns .opn := .inl rfl
theorem names_netB {ls : List Lk} {m : Str} : m ∈ onceS (nmS (netB ls)) ↔ m ∈ namesL ls := by
  rw [onceS_mem]
  unfold namesL
  rw [onceS_mem]
  constructor
  · intro h
    obtain ⟨l, hl, e⟩ := nm_netB h
    exact List.mem_map.mpr ⟨l, hl, e⟩
  · intro h
    obtain ⟨l, hl, rfl⟩ := List.mem_map.mp h
    unfold netB
    split
    · rename_i e
      subst e
      cases hl
    · rw [nmS]
      exact List.mem_map.mpr ⟨norm l, ordL_mem.mpr ⟨l, hl, rfl⟩, norm_name l⟩
theorem joins_rest {ls : List Lk} (h : ∀ k ∈ ls, LokP k) {p : Str → Bool} : joinsB ((onceS (nmS (netB ls))).filter p) (netB ls) ↔ Con (edgL ((namesL ls).filter p) ls) 0 1 := by
  rw [← netB_con fun k hk => (h k hk).lok]
  refine joinsB_mem fun n => ?_
  rw [List.mem_filter, List.mem_filter, names_netB]
def spWebX (C aO aS : Addr) : Sp := fun vs H Q _ => ∃ v o, vs = [v] ∧ LO H v o ∧ ∀ x H', Same H H' → WebB C aO aS H' x (shO o) → Q (.ref x) H'
def spDueX : Sp := fun vs H Q _ => ∃ u1 u2 o1 o2 v1 v2 d1 d2, vs = [u1, u2, v1, v2] ∧ LO H u1 o1 ∧ LO H u2 o2 ∧ Rt H v1 d1 ∧ Rt H v2 d2 ∧ ∀ b H', Same H H' → (b = true ↔ Apart H v1 v2 (shO o1) (shO o2)) → Q (.bl b) H'
end RR
namespace RR
open PySem PySem.Spec PyProof.Rows L2
theorem Gd.back {H H' : Hp} {v : V} {d : PyData} {ns : List Str} (r : Rt H v d) (s : Same H H') (g : Gd H' v ns) : Gd H v ns := by
  obtain ⟨a, rfl, e, g⟩ := g
  cases r with
  | tup e0 p l =>
    have e1 := s _ _ e0
    rw [e] at e1
    exact ⟨a, rfl, by rw [e0]; exact e1.symm, g⟩
  | lst e0 p l =>
    have e1 := s _ _ e0
    rw [e] at e1
    cases e1
  | dic e0 =>
    have e1 := s _ _ e0
    rw [e] at e1
    cases e1
end RR
set_option maxHeartbeats 4000000
namespace RR
open PySem PySem.Spec PyProof.Rows L2
open LamX
/-! ### k52: words, as the law tells them -/
def azS : Str := Str.ofString "abcdefghijklmnopqrstuvwxyz"
def ntAz (c : Nat) : Bool := !(!(Builtin.Str.occurrences azS ⟨#[c]⟩ 0 azS.length 1).isEmpty)
def chN (l : List Nat) : List Nat := l.filter ntAz
def word4 (x : Str) : Bool := (decide ((1 : Int) ≤ (x.length : Int)) && decide ((x.length : Int) ≤ 8)) && (!inV (.str x) resV && (chN x.cps.toList).isEmpty)
theorem word_is : ∀ x ∈ seven ++ oddT, word4 x = decide (x ∈ seven) := by decide +kernel
theorem ch_ok : ∀ x ∈ seven ++ oddT, ∀ c ∈ x.cps.toList, PyData.strOk ⟨#[c]⟩ = true := by decide +kernel
def dCh (c : Nat) : PyData := .str ⟨#[c]⟩
def vCh (c : Nat) : V := .str ⟨#[c]⟩
theorem chs_dp {K : PySem.W.Frag} {H : Hp} : ∀ l : List Nat, DpAll K H (l.map vCh) (l.map dCh)
  | [] => .nil
  | c :: l => .cons (.str _) (chs_dp l)
theorem chs_lay : ∀ {l : List Nat}, (∀ c ∈ l, PyData.strOk ⟨#[c]⟩ = true) → PyData.canLayAll0 (l.map dCh) = true
  | [], _ => rfl
  | c :: l, h => by
    show ((dCh c).canLay0 && PyData.canLayAll0 (l.map dCh)) = true
    rw [chs_lay fun z hz => h z (.tail _ hz), dCh, PyData.canLay0, h c (.head _)]
    rfl
theorem chs_dep : ∀ l : List Nat, PyData.depthAll (l.map dCh) = 0
  | [] => rfl
  | c :: l => by show max 0 (PyData.depthAll (l.map dCh)) = 0; rw [chs_dep l]; rfl
theorem chs_shaped {l : List Nat} (h : ∀ c ∈ l, PyData.strOk ⟨#[c]⟩ = true) : SeqAt.shaped (.list (l.map dCh)) = true := by
  unfold SeqAt.shaped
  rw [Bool.and_eq_true]
  refine ⟨by rw [PyData.canLay0]; exact chs_lay h, decide_eq_true ?_⟩
  show PyData.depthAll (l.map dCh) + 1 ≤ 64
  rw [chs_dep]
  omega
def spIsWord : Sp := fun vs H Q _ => ∃ v d, vs = [v] ∧ Itm H v d ∧ ∀ H', Same H H' → Q (.bl (yesV v)) H'
end RR
namespace RR
open PySem PySem.Spec PyProof.Rows L2
theorem itms_filter {H : Hp} (p : V → Bool) : ∀ {xs : List V} {ds : List PyData}, Paired (Itm H) xs ds → ∃ es, Paired (Itm H) (xs.filter p) es
  | _, _, .nil => ⟨[], .nil⟩
  | v :: xs, d :: ds, .cons h t => by
    obtain ⟨es, he⟩ := itms_filter p t
    rw [List.filter_cons]
    split
    · exact ⟨d :: es, .cons h he⟩
    · exact ⟨es, he⟩
theorem eqv_nilP {H : Hp} {xs : List V} {ds : List PyData} (h : Paired (Itm H) xs ds) : PyData.eqv (.list ds) (.list []) = xs.isEmpty := by
  cases h with
  | nil => rfl
  | cons h t => rfl
end RR
namespace RR
open PySem PySem.Spec PyProof.Rows L2
def rStrT : List V → Hp → VK → Prop := fun xs H Q => ∃ i, xs = [.str i] ∧ Q (.str i) H
end RR
set_option maxHeartbeats 4000000
namespace RR
open PySem PySem.Spec PyProof.Rows L2
/-! ### t * 2, t perhaps empty -/
theorem tuple_mul0 (l : Addr) (items : Array Value) (n : Nat) (dd : Option Addr) (sl : Array (Option Value)) (x : Int) (u : Tok) (c0 : (decide (x < -(2 ^ 63)) || decide (x ≥ 2 ^ 63)) = false) (c1 : (items.isEmpty || x == 1) = true) :
    Meets (Builtin.«tuple.__mul__» ⟨[.ref l, .int x u], []⟩) (fun _ R s => s.heap.get? l = some { cls := .type "tuple", dict := dd, data := .seq items n, slots := sl } ∧ R (.ok (.ret (Value.ref l))) s) :=
  .of_wp fun prog w A R s h => by
    obtain ⟨hp, g, d, tk, os⟩ := s
    obtain ⟨hl, h⟩ := h
    have f1 := AutoSeq1.idx_int
    wp_walk using wpAny_loadPart' hl
    repeat (first
      | (refine wpAny_ite_false (decide_eq_false (by rw [c0]; exact Bool.false_ne_true)) ?_; wp_walk using wpAny_loadPart' hl)
      | (refine wpAny_ite_true (decide_eq_true c1) ?_; wp_walk using wpAny_loadPart' hl))
    exact ⟨_, rfl, h⟩
end RR
namespace RR
open PySem PySem.Spec PyProof.Rows L2
section
variable {X : Cx}
def rDupT (K : PySem.W.Frag) : R2 := fun x y H Q => ∃ l xs, x = .ref l ∧ y = .int 2 ∧ H l = some (.tup xs) ∧ xs.length ≤ 1000 ∧ ∀ p H', Same H H' → H' p = some (.tup (xs ++ xs)) → Q (.ref p) H'
theorem op_dupT : OpR X (binaryOp .Mult) (rDupT X.K) := by
  intro pins s σ H x y v u Q I rx ry h
  obtain ⟨l, xs, rfl, rfl, hl, hz, q⟩ := h
  by_cases e : xs = []
  · subst e
    cases rx
    obtain ⟨t, rfl⟩ := ry
    obtain ⟨its, r, ⟨⟨cls, dd, data, sl⟩, ho, hc, n, hd⟩, hs⟩ := I.tuple (SqT.of hl)
    cases r
    simp only at hc hd
    subst hc hd
    refine wpAny_binaryOp_repeat_ref (T := "tuple") (U := "int") (by decide) ⟨_, ho, rfl⟩ (fun s' => typeIs_int s' 2 t) noFill_tuple_mul F.fills_int_mul F.slot_int_rmul repeat_tuple F.slot_int_index.lookup
      (call_meets F.slot_int_rmul (typeIs_int s 2 t) F.entry_int_rmul (F.args_int_rmul_2 _ _) (int_rmul_tuple 2 t l ([] : List Value).toArray n dd sl)
        ⟨ho, rfl, ⟨_, ho, rfl⟩, call_meets F.slot_tuple_mul ⟨_, ho, rfl⟩ F.entry_tuple_mul (F.args_tuple_mul_2 _ _) (tuple_mul0 l ([] : List Value).toArray n dd sl 2 t (by decide) (by decide)) ⟨ho, ?_⟩⟩)
    exact ⟨.ref l, H, I, rfl, q l H (Same.refl H) hl⟩
  · refine op_repT pins s σ H _ _ v u Q I rx ry ⟨l, 2, xs, rfl, rfl, SqT.of hl, e, by decide, by decide, hz, fun p np => ?_⟩
    refine q p _ (Same.new np) (upd_same.trans ?_)
    rw [show ((2 : Int).toNat) = 2 from rfl, List.replicate_succ, List.replicate_succ, List.replicate_zero]
    simp
/-- t[lo:hi], perhaps t itself -/
def rSlV (K : PySem.W.Frag) : V → Option Int → Option Int → Hp → VK → Prop := fun x lo hi H Q => ∃ a xs, x = .ref a ∧ H a = some (.tup xs) ∧ ∀ t H', Same H H' → H' t = some (.tup (cutV xs lo hi)) → Q (.ref t) H'
theorem sl_tupV : SlR X (rSlV X.K) := by
  intro pins s σ H x v vl vu lo hi sl Q I rx hs pl pu h
  obtain ⟨a, xs, rfl, hx, q⟩ := h
  refine sl_tupA pins s σ H _ v vl vu lo hi sl Q I rx hs pl pu ⟨a, xs, rfl, SqT.of hx, fun w => ?_, fun nw p np => q p _ (Same.new np) upd_same⟩
  refine q a H (Same.refl H) ?_
  unfold cutV
  rw [w.1, w.2, List.drop_zero, Nat.sub_zero, List.take_length]
  exact hx
end
end RR
set_option maxHeartbeats 4000000
namespace RR
open PySem PySem.Spec PyProof.Rows L2
open LamX
/-! ### k52: a way or a cut bent -/
/-- a part of a row of names is a row of names -/
theorem cut_nms (ws : List Str) (lo hi : Option Int) : ∃ us : List Str, cutV (ws.map V.str) lo hi = us.map V.str ∧ (∀ n ∈ us, n ∈ ws) ∧ us.length ≤ ws.length := by
  unfold cutV
  rw [← List.map_drop, ← List.map_take]
  exact ⟨_, rfl, fun n h => List.mem_of_mem_drop (List.mem_of_mem_take h), by rw [List.length_take, List.length_drop]; omega⟩
theorem Rt.pen {H H' : Hp} {p c : Addr} {ns : List Int} {a g : Int} {v : V} {d : PyData} (W : PenAt H p c ns a g) (k : Keep p H H') (h : Rt H v d) (ne : v ≠ .ref p) : Rt H' v d := by
  have s := StT.pen W k
  cases h with
  | tup e q l => exact .tup (s _ _ e) (Paired.mono (fun _ _ h => h.st s) q) l
  | lst e q l => exact .lst (k _ _ e (fun z => ne (by rw [z]))) (Paired.mono (fun _ _ h => h.st s) q) l
  | txt a b => exact .txt a b
  | non => exact .non
  | sev => exact .sev
  | dic e => exact .dic (k _ _ e (fun z => ne (by rw [z])))
/-- names in a tuple -/
def Wd7 (H : Hp) (v : V) (ws : List Str) : Prop := ∃ a, v = .ref a ∧ H a = some (.tup (ws.map V.str)) ∧ (∀ n ∈ ws, n ∈ seven) ∧ ws.length ≤ 10
theorem Wd7.pen {H H' : Hp} {p c : Addr} {ns : List Int} {a g : Int} {v : V} {ws : List Str} (W : PenAt H p c ns a g) (k : Keep p H H') (h : Wd7 H v ws) : Wd7 H' v ws := by
  obtain ⟨b, e, h1, h2⟩ := h
  exact ⟨b, e, StT.pen W k _ _ h1, h2⟩
theorem Wd7.same {H H' : Hp} {v : V} {ws : List Str} (s : Same H H') (h : Wd7 H v ws) : Wd7 H' v ws := by
  obtain ⟨b, e, h1, h2⟩ := h
  exact ⟨b, e, s _ _ h1, h2⟩
theorem Wd7.np {H : Hp} {p c : Addr} {ns : List Int} {a g : Int} {v : V} {ws : List Str} (W : PenAt H p c ns a g) (h : Wd7 H v ws) : v ≠ .ref p := by
  obtain ⟨b, rfl, h1, _⟩ := h
  intro z
  obtain rfl := V.ref.inj z
  have := W.pn
  rw [h1] at this
  cases this
theorem Wd7.rt {H : Hp} {v : V} {ws : List Str} (h : Wd7 H v ws) : Rt H v (.tuple (ws.map PyData.str)) := by
  obtain ⟨b, rfl, h1, h2, h3⟩ := h
  exact .tup h1 (itms_strs h2) (by rw [List.length_map]; omega)
def spSpoiltX : Sp := fun vs H Q _ => ∃ p c ns a g v ws, vs = [.ref p, v] ∧ PenAt H p c ns a g ∧ Wd7 H v ws ∧ a ≤ 95000 ∧
  ∀ r d a' g' H', H' p = some (pen c a' g') → Keep p H H' → Rt H' r d → r ≠ .ref p → a ≤ a' → a' ≤ a + 4 → Q r H'
theorem sum7 : ∀ {l : List Str}, (∀ n ∈ l, n ∈ seven) → (l.map (·.length)).sum ≤ 9 * l.length := fun {l} => by
  induction l with
  | nil => intro _; exact Nat.zero_le _
  | cons n r ih =>
    intro h
    have a := so_ln n (in7 (h n (.head _)))
    have b := ih fun z hz => h z (.tail _ hz)
    rw [List.map_cons, List.sum_cons, List.length_cons]
    omega
theorem join7 {ws : List Str} (h : ∀ n ∈ ws, n ∈ seven) (l : ws.length ≤ 10) : LowS (Txt.join " " ws) ∧ (Txt.join " " ws).length ≤ 200 := by
  refine ⟨join_low (small_low _ (by decide +kernel)) fun x hx => lows (in7 (h x hx)), ?_⟩
  have e := join_len " " ws
  have sm : ∀ l : List Str, (∀ n ∈ l, n ∈ seven) → (l.map (·.length)).sum ≤ 9 * l.length := fun l => by
    induction l with
    | nil => intro _; exact Nat.zero_le _
    | cons n r ih =>
      intro h
      have a := so_ln n (in7 (h n (.head _)))
      have b := ih fun z hz => h z (.tail _ hz)
      rw [List.map_cons, List.sum_cons, List.length_cons]
      omega
  have b := sm ws h
  have c : (Str.ofString " ").length = 1 := by decide +kernel
  have d : ws.length * (Str.ofString " ").length ≤ 10 := by rw [c]; omega
  have e : (Txt.join " " ws).length ≤ (ws.map (·.length)).sum + ws.length * (Str.ofString " ").length := e
  omega
end RR
set_option maxHeartbeats 4000000
namespace RR
open PySem PySem.Spec PyProof.Rows L2
local macro_rules | `(tactic| walk_at "hp") => `(tactic| first | assumption | exact upd_same | (refine hp_new ?_ (by assumption); walk_at "hp") | (refine hp_mut ?_ (by first | assumption | (apply Ne.symm; assumption)); walk_at "hp") | (refine Same.at (by assumption) ?_; walk_at "hp"))
local macro_rules | `(tactic| walk_at "same") => `(tactic| first | exact fun _ _ z => z | assumption | (refine same_new ?_ (by assumption); walk_at "same") | (refine L2.Same.trans ?_ (by assumption); walk_at "same"))
local macro_rules | `(tactic| walk_at "sq") => `(tactic| exact SqL.of (by walk_at "hp"))
local macro_rules | `(tactic| walk_at "sqT") => `(tactic| exact SqT.of (by walk_at "hp"))

open LamX
section
variable {P : Program} {w : World} {K : PySem.W.Frag} {mg : Str → Option Value} {base : Heap}
theorem g__law_spoilt (T : TX K mg) : FnG P w K mg base CX0 20 T.f__law_spoilt (spSpoiltX) := by
  refine okG T.F__law_spoilt sc__law_spoilt (bd__law_spoilt T.F__law_spoilt) (fun vs H Q E h => ?_) (fun cdv A out s H vs Q E hr fr h => ?_)
  · obtain ⟨p, c, ns, a, g, v, ws, rfl, W, G0, ha, k⟩ := h
    rfl
  · obtain ⟨p, c, ns, a, g, v, ws, rfl, W, G0, ha, k⟩ := h
    refine ⟨_, (pss_cons (ps_set (i := 2) sc__law_spoilt.nd rfl (Or.inl rfl) (pe_callG (g__law_draw T) (hr.mono (by decide)) fr (by rfl) T.m__law_draw T.F__law_draw.kp pass0 (pa_cons (pv 0) (pa_cons (pe_op op_add (pe_callB call_len_seq (by rfl) T.b_len PySem.boot_len (pa_cons (pv 1) pa_nil)) pe_int) pa_nil))))
 (pss_cons (ps_set (i := 3) sc__law_spoilt.nd rfl (Or.inl rfl) (pe_callG (g__law_pick T) (hr.mono (by decide)) fr (by rfl) T.m__law_pick T.F__law_pick.kp pass0 (pa_cons (pv 0) (pa_cons (pe_lst (pa_cons pe_str (pa_cons pe_str (pa_cons pe_str (pa_cons pe_str (pa_cons pe_str (pa_cons pe_str (pa_cons pe_str (pa_cons pe_str (pa_cons pe_str (pa_cons pe_int (pa_cons pe_bl (pa_cons pe_non (pa_cons (pe_tup (pa_cons pe_str pa_nil)) pa_nil)))))))))))))) pa_nil))))
 (pss_cons (ps_set (i := 4) sc__law_spoilt.nd rfl (Or.inl rfl) (pe_callG (g__law_draw T) (hr.mono (by decide)) fr (by rfl) T.m__law_draw T.F__law_draw.kp pass0 (pa_cons (pv 0) (pa_cons pe_int pa_nil))))
 (pss_cons (ps_if (pt_cmpR op_eq (pv 4) pe_int (nomark _)) (pss_one (ps_ret (pe_op (show OpR _ _ (rCatV K) from op_catV) (pe_op (show OpR _ _ (rCatV K) from op_catV) (pe_slice (r := rSlV K) sl_tupV (pv 1) po_none (po_some (pv 2))) (pe_tup (pa_cons (pv 3) pa_nil))) (pe_slice (r := rSlV K) sl_tupV (pv 1) (po_some (pv 2)) po_none)))) pss_nil)
 (pss_cons (ps_if (pt_cmpR op_eq (pv 4) pe_int (nomark _)) (pss_one (ps_ret (pe_op (show OpR _ _ (rCatV K) from op_catV) (pe_op (show OpR _ _ (rCatV K) from op_catV) (pe_slice (r := rSlV K) sl_tupV (pv 1) po_none (po_some (pv 2))) (pe_tup (pa_cons (pv 3) pa_nil))) (pe_slice (r := rSlV K) sl_tupV (pv 1) (po_some (pe_op op_add (pv 2) pe_int)) po_none)))) pss_nil)
 (pss_cons (ps_if (pt_cmpR op_eq (pv 4) pe_int (nomark _)) (pss_one (ps_ret (pe_op (show OpR _ _ (rCatV K) from op_catV) (pe_slice (r := rSlV K) sl_tupV (pv 1) po_none (po_some (pv 2))) (pe_slice (r := rSlV K) sl_tupV (pv 1) (po_some (pe_op op_add (pv 2) pe_int)) po_none)))) pss_nil)
 (pss_cons (ps_if (pt_cmpR op_eq (pv 4) pe_int (nomark _)) (pss_one (ps_ret (pe_op (show OpR _ _ (rCatV K) from op_catV) (pe_op (show OpR _ _ (rCatV K) from op_catV) (pe_slice (r := rSlV K) sl_tupV (pv 1) po_none (po_some (pv 2))) (pe_op (show OpR _ _ (rDupT K) from op_dupT) (pe_slice (r := rSlV K) sl_tupV (pv 1) (po_some (pv 2)) (po_some (pe_op op_add (pv 2) pe_int))) pe_int)) (pe_slice (r := rSlV K) sl_tupV (pv 1) (po_some (pe_op op_add (pv 2) pe_int)) po_none)))) pss_nil)
 (pss_cons (ps_if (pt_cmpR op_eq (pv 4) pe_int (nomark _)) (pss_one (ps_ret (pe_revT (pv 1)))) pss_nil)
 (pss_one (ps_ret (pe_callG (g__law_pick T) (hr.mono (by decide)) fr (by rfl) T.m__law_pick T.F__law_pick.kp pass0 (pa_cons (pv 0) (pa_cons (pe_lst (pa_cons (pe_callTy call_list_of (by rfl) T.b_list (by decide +kernel) (pa_cons (pv 1) pa_nil)) (pa_cons (pe_join pe_str (pv 1)) (pa_cons pe_non (pa_cons pe_int (pa_cons (pe_tup pa_nil) (pa_cons pe_dnewK (pa_cons (pe_tup (pa_cons (pv 1) pa_nil)) (pa_cons (pe_lst (pa_cons (pv 1) pa_nil)) pa_nil))))))))) pa_nil))))))))))))), ?_⟩
    obtain ⟨b, rfl, hb, n7, wl⟩ := id G0
    have ln : (((ws.map V.str).length : Nat) : Int) ≤ 10 := by rw [List.length_map]; omega
    refine ⟨_, rfl, _, rfl, b, _, rfl, .inr (SqT.of hb), _, _, rfl, rfl, p, c, ns, a, g, _, rfl, by omega, by omega, W, fun e a1 g1 H1 hp1 k1 e0 e1 l1 u1 => ?_⟩
    have W1 := W.next l1 (by omega) hp1 k1
    obtain ⟨n, rfl⟩ := Int.eq_ofNat_of_zero_le e0
    have hb1 := StT.pen W k1 _ _ hb
    refine gname_nx ?_
    dsimp only
    refine seq_of ?_
    refine ⟨_, rfl, by show 1 ≤ sizeLine; decide, fun t nt => ?_⟩
    have bt := Same.new nt (o := .tup [.str "a"])
    have ht := upd_same (H := H1) (a := t) (o := .tup [.str "a"])
    have W2 := W1.keep bt
    have hb2 := bt _ _ hb1
    have K2 := k1.trans (Keep.of bt)
    generalize upd H1 t (.tup [.str "a"]) = H2 at bt ht W2 hb2 K2 ⊢
    refine ⟨by show 13 ≤ sizeLine; decide, fun L nL => ?_⟩
    have bL := Same.new nL (o := .lst [.str "a", .str "b", .str "ab", .str "zz", .str "n", .str "", .str "A", .str "net", .str "abcdefghi", .int 0, .bl true, .non, .ref t])
    have hL := upd_same (H := H2) (a := L) (o := .lst [.str "a", .str "b", .str "ab", .str "zz", .str "n", .str "", .str "A", .str "net", .str "abcdefghi", .int 0, .bl true, .non, .ref t])
    have W3 := W2.keep bL
    have Lp : L ≠ p := (ne_of_none W2.pn nL).symm
    have ht3 := bL _ _ ht
    have hb3 := bL _ _ hb2
    have K3 := K2.trans (Keep.of bL)
    generalize upd H2 L (.lst [.str "a", .str "b", .str "ab", .str "zz", .str "n", .str "", .str "A", .str "net", .str "abcdefghi", .int 0, .bl true, .non, .ref t]) = H3 at bL hL W3 ht3 hb3 K3 ⊢
    refine ⟨p, L, c, ns, a1, g1, _, rfl, W3, hL, Lp, by show 0 < 13; decide, by show 13 < 1000; decide, fun z a4 g4 H4 hp4 k4 hz l4 u4 => ?_⟩
    have W4 := W3.next l4 (by omega) hp4 k4
    have ht4 := StT.pen W3 k4 _ _ ht3
    have hb4 := StT.pen W3 k4 _ _ hb3
    have K4 := K3.trans k4
    obtain ⟨dz, iz⟩ : ∃ d, Itm H4 z d := by
      simp only [List.mem_cons, List.not_mem_nil, or_false] at hz
      rcases hz with rfl | rfl | rfl | rfl | rfl | rfl | rfl | rfl | rfl | rfl | rfl | rfl | rfl
      all_goals first | exact ⟨_, .txt (by decide +kernel)⟩ | exact ⟨_, .zero⟩ | exact ⟨_, .yes⟩ | exact ⟨_, .non⟩ | exact ⟨_, .tup (ts := [Str.ofString "a"]) ht4 (by decide +kernel) (by decide)⟩
    clear ht4 ht3 ht hL bL bt nt nL hz
    refine gname_nx ?_
    dsimp only
    refine seq_of ?_
    refine ⟨_, rfl, p, c, ns, a4, g4, 8, rfl, by decide, by decide, W4, fun rt a5 g5 H5 hp5 k5 r0 r1 l5 u5 => ?_⟩
    have W5 := W4.next l5 (by omega) hp5 k5
    have hb5 := StT.pen W4 k5 _ _ hb4
    have iz5 := iz.st (StT.pen W4 k5)
    have K5 := K4.trans k5
    clear iz hb4 hb3 hb2 hb1 W1 W2 W3 W4 hp5 hp4 hp1
    have END : ∀ r d H', Same H5 H' → Rt H' r d → r ≠ .ref p → Q r H' := fun r d H' s h ne => k r d a5 g5 H' (s _ _ W5.pn) (K5.trans (Keep.of s)) h ne (by omega) (by omega)
    have ITS : ∀ {us : List Str} {H'}, (∀ n ∈ us, n ∈ ws) → Paired (Itm H') (us.map V.str) (us.map PyData.str) := fun h => itms_strs fun n hn => n7 n (h n hn)
    have NP : ∀ {q : Addr} {xs : List V} {H'}, Same H5 H' → H' q = some (.tup xs) → V.ref q ≠ .ref p := fun s h z => by
      obtain rfl := V.ref.inj z
      have := s _ _ W5.pn
      rw [h] at this
      cases this
    have NPn : ∀ {q : Addr} {H'}, Same H5 H' → H' q = none → V.ref q ≠ .ref p := fun s h z => by
      obtain rfl := V.ref.inj z
      have := s _ _ W5.pn
      rw [h] at this
      cases this
    refine gname_nx ?_
    dsimp only
    refine seq_of ?_
    refine ⟨_, rfl, rfl, _, rfl, ?_⟩
    rw [dec_int]
    by_cases z0 : rt = 0
    · rw [decide_eq_true z0]
      refine iteT ?_
      refine ⟨_, rfl, _, rfl, _, rfl, b, _, rfl, hb5, fun t11 H11 s11 h11 => ?_⟩
      obtain ⟨us11, e11, m11, l11⟩ := cut_nms ws _ _
      rw [e11] at h11
      refine ⟨_, rfl, by show 1 ≤ sizeLine; decide, fun tz nz => ?_⟩
      have sz := Same.new nz (o := .tup [z])
      have hz := upd_same (H := H11) (a := tz) (o := .tup [z])
      generalize upd H11 tz (.tup [z]) = Hz at sz hz ⊢
      refine ⟨t11, tz, _, _, rfl, rfl, sz _ _ h11, hz, by rw [List.length_map, sizeLine_eq]; show _ + 1 ≤ _; omega, fun t12 H12 s12 h12 => ?_⟩
      have S12 := (s11.trans sz).trans s12
      refine ⟨_, rfl, _, rfl, _, rfl, b, _, rfl, (S12 _ _ hb5), fun t13 H13 s13 h13 => ?_⟩
      obtain ⟨us13, e13, m13, l13⟩ := cut_nms ws _ _
      rw [e13] at h13
      have S13 := S12.trans s13
      refine ⟨t12, t13, _, _, rfl, rfl, s13 _ _ h12, h13, by simp only [List.length_append, List.length_map, List.length_cons, List.length_nil]; rw [sizeLine_eq]; omega, fun t14 H14 s14 h14 => ?_⟩
      have SZ := S13.trans s14
      refine END _ _ _ SZ (.tup h14 (Paired.mono (fun _ _ h => h.st (StT.same SZ)) (pair_app (pair_app (ITS m11) (.cons iz5 .nil)) (ITS m13))) (by simp only [List.length_append, List.length_map, List.length_cons, List.length_nil]; omega)) (NP SZ h14)
    
    rw [decide_eq_false z0]
    refine iteF ?_
    dsimp only [tNext]
    refine seq_of ?_
    refine ⟨_, rfl, rfl, _, rfl, ?_⟩
    rw [dec_int]
    by_cases z1 : rt = 1
    · rw [decide_eq_true z1]
      refine iteT ?_
      refine ⟨_, rfl, _, rfl, _, rfl, b, _, rfl, hb5, fun t11 H11 s11 h11 => ?_⟩
      obtain ⟨us11, e11, m11, l11⟩ := cut_nms ws _ _
      rw [e11] at h11
      refine ⟨_, rfl, by show 1 ≤ sizeLine; decide, fun tz nz => ?_⟩
      have sz := Same.new nz (o := .tup [z])
      have hz := upd_same (H := H11) (a := tz) (o := .tup [z])
      generalize upd H11 tz (.tup [z]) = Hz at sz hz ⊢
      refine ⟨t11, tz, _, _, rfl, rfl, sz _ _ h11, hz, by rw [List.length_map, sizeLine_eq]; show _ + 1 ≤ _; omega, fun t12 H12 s12 h12 => ?_⟩
      have S12 := (s11.trans sz).trans s12
      refine ⟨_, rfl, _, rfl, _, _, rfl, rfl, _, rfl, b, _, rfl, (S12 _ _ hb5), fun t13 H13 s13 h13 => ?_⟩
      obtain ⟨us13, e13, m13, l13⟩ := cut_nms ws _ _
      rw [e13] at h13
      have S13 := S12.trans s13
      refine ⟨t12, t13, _, _, rfl, rfl, s13 _ _ h12, h13, by simp only [List.length_append, List.length_map, List.length_cons, List.length_nil]; rw [sizeLine_eq]; omega, fun t14 H14 s14 h14 => ?_⟩
      have SZ := S13.trans s14
      refine END _ _ _ SZ (.tup h14 (Paired.mono (fun _ _ h => h.st (StT.same SZ)) (pair_app (pair_app (ITS m11) (.cons iz5 .nil)) (ITS m13))) (by simp only [List.length_append, List.length_map, List.length_cons, List.length_nil]; omega)) (NP SZ h14)
    
    rw [decide_eq_false z1]
    refine iteF ?_
    dsimp only [tNext]
    refine seq_of ?_
    refine ⟨_, rfl, rfl, _, rfl, ?_⟩
    rw [dec_int]
    by_cases z2 : rt = 2
    · rw [decide_eq_true z2]
      refine iteT ?_
      refine ⟨_, rfl, _, rfl, _, rfl, b, _, rfl, hb5, fun t11 H11 s11 h11 => ?_⟩
      obtain ⟨us11, e11, m11, l11⟩ := cut_nms ws _ _
      rw [e11] at h11
      refine ⟨_, rfl, _, rfl, _, _, rfl, rfl, _, rfl, b, _, rfl, (s11 _ _ hb5), fun t13 H13 s13 h13 => ?_⟩
      obtain ⟨us13, e13, m13, l13⟩ := cut_nms ws _ _
      rw [e13] at h13
      have S13 := s11.trans s13
      refine ⟨t11, t13, _, _, rfl, rfl, s13 _ _ h11, h13, by simp only [List.length_append, List.length_map]; rw [sizeLine_eq]; omega, fun t14 H14 s14 h14 => ?_⟩
      have SZ := S13.trans s14
      refine END _ _ _ SZ (.tup h14 (pair_app (ITS m11) (ITS m13)) (by simp only [List.length_append, List.length_map, List.length_cons, List.length_nil]; omega)) (NP SZ h14)
    
    rw [decide_eq_false z2]
    refine iteF ?_
    dsimp only [tNext]
    refine seq_of ?_
    refine ⟨_, rfl, rfl, _, rfl, ?_⟩
    rw [dec_int]
    by_cases z3 : rt = 3
    · rw [decide_eq_true z3]
      refine iteT ?_
      refine ⟨_, rfl, _, rfl, _, rfl, b, _, rfl, hb5, fun t11 H11 s11 h11 => ?_⟩
      obtain ⟨us11, e11, m11, l11⟩ := cut_nms ws _ _
      rw [e11] at h11
      refine ⟨_, rfl, _, rfl, _, rfl, _, rfl, _, _, rfl, rfl, _, rfl, b, _, rfl, (s11 _ _ hb5), fun t15 H15 s15 h15 => ?_⟩
      obtain ⟨us15, e15, m15, l15⟩ := cut_nms ws _ _
      rw [e15] at h15
      have S15 := s11.trans s15
      refine ⟨t15, _, rfl, rfl, h15, by rw [List.length_map]; omega, fun t16 H16 s16 h16 => ?_⟩
      have S16 := S15.trans s16
      refine ⟨t11, t16, _, _, rfl, rfl, s16 _ _ (s15 _ _ h11), h16, by simp only [List.length_append, List.length_map]; rw [sizeLine_eq]; omega, fun t12 H12 s12 h12 => ?_⟩
      have S12 := S16.trans s12
      refine ⟨_, rfl, _, rfl, _, _, rfl, rfl, _, rfl, b, _, rfl, (S12 _ _ hb5), fun t13 H13 s13 h13 => ?_⟩
      obtain ⟨us13, e13, m13, l13⟩ := cut_nms ws _ _
      rw [e13] at h13
      have S13 := S12.trans s13
      refine ⟨t12, t13, _, _, rfl, rfl, s13 _ _ h12, h13, by simp only [List.length_append, List.length_map]; rw [sizeLine_eq]; omega, fun t14 H14 s14 h14 => ?_⟩
      have SZ := S13.trans s14
      refine END _ _ _ SZ (.tup h14 (pair_app (pair_app (ITS m11) (pair_app (ITS m15) (ITS m15))) (ITS m13)) (by simp only [List.length_append, List.length_map, List.length_cons, List.length_nil]; omega)) (NP SZ h14)
    
    rw [decide_eq_false z3]
    refine iteF ?_
    dsimp only [tNext]
    refine seq_of ?_
    refine ⟨_, rfl, rfl, _, rfl, ?_⟩
    rw [dec_int]
    by_cases z4 : rt = 4
    · rw [decide_eq_true z4]
      refine iteT ?_
      refine ⟨_, rfl, b, _, rfl, SqT.of hb5, fun q nq => ?_⟩
      have sq := Same.new nq (o := .tup (ws.map V.str).reverse)
      refine END (.ref q) _ _ sq (.tup (xs := (ws.map V.str).reverse) (ds := ws.reverse.map PyData.str) upd_same ?_ (by rw [List.length_reverse, List.length_map]; omega)) (NPn (Same.refl _) nq)
      rw [← List.map_reverse]
      exact ITS fun n hn => List.mem_reverse.mp hn
    rw [decide_eq_false z4]
    refine iteF ?_
    dsimp only [tNext]
    have J7 := join7 n7 wl
    refine ⟨_, rfl, _, rfl, b, _, rfl, .inr (SqT.of hb5), fun l6 n6 => ?_⟩
    have s6 := Same.new n6 (o := .lst (ws.map V.str))
    have h6 := upd_same (H := H5) (a := l6) (o := .lst (ws.map V.str))
    have p6 := NPn (Same.refl _) n6
    generalize upd H5 l6 (.lst (ws.map V.str)) = H6 at s6 h6 ⊢
    refine ⟨⟨_, rfl⟩, _, rfl, Str.ofString " ", b, ws, rfl, rfl, .inr (SqT.of (s6 _ _ hb5)), by
      have e := sum7 n7
      have d : ws.length * (Str.ofString " ").length ≤ 10 := by
        rw [show (Str.ofString " ").length = 1 from by decide +kernel]
        omega
      omega, ?_⟩
    refine ⟨by show 0 ≤ sizeLine; decide, fun t7 n7' => ?_⟩
    have S7 := s6.trans (Same.new n7' (o := .tup []))
    have h7 := upd_same (H := H6) (a := t7) (o := .tup [])
    have h6 := (Same.new n7' (o := .tup [])) _ _ h6
    have p7 := NPn s6 n7'
    generalize upd H6 t7 (.tup []) = H7 at S7 h7 h6 ⊢
    refine fun q8 n8 => ?_
    have S8 := S7.trans (Same.new n8 (o := .dK []))
    have h8 := upd_same (H := H7) (a := q8) (o := .dK [])
    have h7 := (Same.new n8 (o := .dK [])) _ _ h7
    have h6 := (Same.new n8 (o := .dK [])) _ _ h6
    have p8 := NPn S7 n8
    generalize upd H7 q8 (.dK []) = H8 at S8 h8 h7 h6 ⊢
    refine ⟨_, rfl, by show 1 ≤ sizeLine; decide, fun t9 n9 => ?_⟩
    have S9 := S8.trans (Same.new n9 (o := .tup [.ref b]))
    have h9 := upd_same (H := H8) (a := t9) (o := .tup [.ref b])
    have h8 := (Same.new n9 (o := .tup [.ref b])) _ _ h8
    have h7 := (Same.new n9 (o := .tup [.ref b])) _ _ h7
    have h6 := (Same.new n9 (o := .tup [.ref b])) _ _ h6
    have p9 := NPn S8 n9
    generalize upd H8 t9 (.tup [.ref b]) = H9 at S9 h9 h8 h7 h6 ⊢
    refine ⟨_, rfl, by show 1 ≤ sizeLine; decide, fun l10 n10 => ?_⟩
    have s10 := Same.new n10 (o := .lst [.ref b])
    have S10 := S9.trans s10
    have h10 := upd_same (H := H9) (a := l10) (o := .lst [.ref b])
    have p10 := NPn S9 n10
    have h9 := s10 _ _ h9
    have h8 := s10 _ _ h8
    have h7 := s10 _ _ h7
    have h6 := s10 _ _ h6
    generalize upd H9 l10 (.lst [.ref b]) = H10 at s10 S10 h10 h9 h8 h7 h6 ⊢
    refine ⟨by show 8 ≤ sizeLine; decide, fun L nL => ?_⟩
    have sL := Same.new nL (o := .lst [.ref l6, .str (Txt.join " " ws), .non, .int 7, .ref t7, .ref q8, .ref t9, .ref l10])
    have S11 := S10.trans sL
    have hL := upd_same (H := H10) (a := L) (o := .lst [.ref l6, .str (Txt.join " " ws), .non, .int 7, .ref t7, .ref q8, .ref t9, .ref l10])
    have W11 := W5.keep S11
    have Lp : L ≠ p := fun z => NPn S10 nL (by rw [z])
    have h10 := sL _ _ h10
    have h9 := sL _ _ h9
    have h8 := sL _ _ h8
    have h7 := sL _ _ h7
    have h6 := sL _ _ h6
    generalize upd H10 L (.lst [.ref l6, .str (Txt.join " " ws), .non, .int 7, .ref t7, .ref q8, .ref t9, .ref l10]) = H11 at sL S11 hL W11 h10 h9 h8 h7 h6 ⊢
    refine ⟨p, L, c, ns, a5, g5, _, rfl, W11, hL, Lp, by show 0 < 8; decide, by show 8 < 1000; decide, fun r a12 g12 H12 hp12 k12 hr l12 u12 => ?_⟩
    have hb11 := S11 _ _ hb5
    have RR11 : ∃ d, Rt H11 r d ∧ r ≠ .ref p := by
      simp only [List.mem_cons, List.not_mem_nil, or_false] at hr
      rcases hr with rfl | rfl | rfl | rfl | rfl | rfl | rfl | rfl
      · exact ⟨_, .lst h6 (ITS fun n hn => hn) (by rw [List.length_map]; omega), p6⟩
      · exact ⟨_, .txt J7.1 J7.2, fun z => by cases z⟩
      · exact ⟨_, .non, fun z => by cases z⟩
      · exact ⟨_, .sev, fun z => by cases z⟩
      · exact ⟨_, .tup h7 .nil (by decide), p7⟩
      · exact ⟨_, .dic h8, p8⟩
      · exact ⟨_, .tup h9 (.cons (.tup hb11 n7 (by omega)) .nil) (by show 1 ≤ 45; decide), p9⟩
      · exact ⟨_, .lst h10 (.cons (.tup hb11 n7 (by omega)) .nil) (by show 1 ≤ 45; decide), p10⟩
    obtain ⟨dr, hR, hn⟩ := RR11
    exact k r dr a12 g12 H12 hp12 ((K5.trans (Keep.of S11)).trans k12) (hR.pen W11 k12 hn) hn (by omega) (by omega)
end
end RR
set_option maxHeartbeats 4000000
namespace RR
open PySem PySem.Spec PyProof.Rows L2
local macro_rules | `(tactic| walk_at "hp") => `(tactic| first | assumption | exact upd_same | (refine hp_new ?_ (by assumption); walk_at "hp") | (refine hp_mut ?_ (by first | assumption | (apply Ne.symm; assumption)); walk_at "hp") | (refine Same.at (by assumption) ?_; walk_at "hp"))
local macro_rules | `(tactic| walk_at "same") => `(tactic| first | exact fun _ _ z => z | assumption | (refine same_new ?_ (by assumption); walk_at "same") | (refine L2.Same.trans ?_ (by assumption); walk_at "same"))
local macro_rules | `(tactic| walk_at "sq") => `(tactic| exact SqL.of (by walk_at "hp"))
local macro_rules | `(tactic| walk_at "sqT") => `(tactic| exact SqT.of (by walk_at "hp"))

open LamX
section
variable {P : Program} {w : World} {K : PySem.W.Frag} {mg : Str → Option Value} {base : Heap}
theorem g__law_web (T : TX K mg) : FnG P w K mg base CX0 60 T.f__law_web (spWebX T.C_Web T.a_OPEN T.a_SHUT) := by
  refine okG T.F__law_web sc__law_web (bd__law_web T.F__law_web) (fun vs H Q E h => ?_) (fun cdv A out s H vs Q E hr fr h => ?_)
  · obtain ⟨v, o, rfl, h, k⟩ := h
    rfl
  · obtain ⟨v, o, rfl, h, k⟩ := h
    refine ⟨_, (pss_one (ps_ret (pe_ifExp (pt_cmpR op_isN (pv 0) pe_non (nomark _)) (pe_smeth0 (pe_glob (v := .ref T.C_Web) (by rfl) T.m_Web rfl) T.st_always (r_Web_always T) (hr.mono (by decide)) pass0) (pe_smeth (pe_glob (v := .ref T.C_Web) (by rfl) T.m_Web rfl) T.st_net (r_Web_net T) (hr.mono (by decide)) pass0 (pa_cons (pv 0) pa_nil))))), ?_⟩
    rcases h with ⟨rfl, rfl⟩ | ⟨l, xs, ls, rfl, rfl, hl, tl, lk, ln⟩
    · refine ⟨_, rfl, rfl, _, rfl, ?_⟩
      refine iteT ?_
      exact ⟨rfl, rfl, fun x H1 s1 X => k x H1 s1 X⟩
    · refine ⟨_, rfl, rfl, _, rfl, ?_⟩
      refine iteF ?_
      exact ⟨rfl, _, rfl, l, xs, ls, rfl, .inl hl, tl, fun k hk => (lk k hk).lok, by omega, fun x H1 s1 X => k x H1 s1 X⟩
end
end RR
set_option maxHeartbeats 4000000
namespace RR
open PySem PySem.Spec PyProof.Rows L2
local macro_rules | `(tactic| walk_at "hp") => `(tactic| first | assumption | exact upd_same | (refine hp_new ?_ (by assumption); walk_at "hp") | (refine hp_mut ?_ (by first | assumption | (apply Ne.symm; assumption)); walk_at "hp") | (refine Same.at (by assumption) ?_; walk_at "hp"))
local macro_rules | `(tactic| walk_at "same") => `(tactic| first | exact fun _ _ z => z | assumption | (refine same_new ?_ (by assumption); walk_at "same") | (refine L2.Same.trans ?_ (by assumption); walk_at "same"))
local macro_rules | `(tactic| walk_at "sq") => `(tactic| exact SqL.of (by walk_at "hp"))
local macro_rules | `(tactic| walk_at "sqT") => `(tactic| exact SqT.of (by walk_at "hp"))

open LamX
section
variable {P : Program} {w : World} {K : PySem.W.Frag} {mg : Str → Option Value} {base : Heap}
theorem g__law_is_word (T : TX K mg) : FnG P w K mg base CX0 1 T.f__law_is_word (spIsWord) := by
  refine okG T.F__law_is_word sc__law_is_word (bd__law_is_word T.F__law_is_word) (fun vs H Q E h => ?_) (fun cdv A out s H vs Q E hr fr h => ?_)
  · obtain ⟨v, d, rfl, hi, k⟩ := h
    rfl
  · obtain ⟨v, d, rfl, hi, k⟩ := h
    refine ⟨_, (pss_cons (ps_if (PW.pt (pw_or (pt_not (pt_val (pe_callB call_isi (by rfl) T.b_isinstance (by decide +kernel) (pa_cons (pv 0) (pa_cons (pe_bltn (v := .ty "str") (by rfl) T.b_str (by decide +kernel) rfl) pa_nil))))) (pw_or (pt_not (pt_chain op_le op_le pe_int (pe_callB call_len_str (by rfl) T.b_len PySem.boot_len (pa_cons (pv 0) pa_nil)) pe_int)) (pw_or1 (pt_cmpR (show OpR _ (compareOp .In) (rIn K false) from op_in_seq) (pv 0) (pe_tup (pa_cons pe_str (pa_cons pe_str (pa_cons pe_str pa_nil)))) (by rfl)))))) (pss_one (ps_ret pe_bl)) pss_nil)
 (pss_one (ps_ret (pe_cmpR (show OpR _ _ (rEqD K) from op_eqD hr.units) (pe_lc (own := [("_law_sign", 1)]) (g := (gName 1)) (by rfl) sc__law_is_word.nd (pi_str (pv 0)) (blkOk_by (own := [("_law_sign", 1)]) (N := N__law_is_word) (sc := defScope s__law_is_word) (by decide +kernel)) (fun _ _ _ _ _ => (pg_name (i := 1) sc__law_is_word.nd rfl (Or.inl rfl))) (fun _ _ _ _ _ => (pts_one (pt_cmpR op_notin_str (pv 1) pe_str (by rfl)))) (fun _ _ _ _ _ => (pv 1))) (pe_lst pa_nil) (nomark _))))), ?_⟩
    cases hi with
    | zero =>
      refine ⟨_, rfl, _, _, _, _, false, rfl, .ty "str", .base (.int 0), kit_ty (by decide +kernel), _, rfl, ?_⟩
      refine iteT ?_
      refine iteT ?_
      exact k H (Same.refl H)
    | yes =>
      refine ⟨_, rfl, _, _, _, _, false, rfl, .ty "str", .base (.bl true), kit_ty (by decide +kernel), _, rfl, ?_⟩
      refine iteT ?_
      refine iteT ?_
      exact k H (Same.refl H)
    | non =>
      refine ⟨_, rfl, _, _, _, _, false, rfl, .ty "str", .base .non, kit_ty (by decide +kernel), _, rfl, ?_⟩
      refine iteT ?_
      refine iteT ?_
      exact k H (Same.refl H)
    | tup e h l =>
      refine ⟨_, rfl, _, _, _, _, false, rfl, .ty "str", .base (.tup e), kit_ty (by decide +kernel), _, rfl, ?_⟩
      refine iteT ?_
      refine iteT ?_
      exact k H (Same.refl H)
    | @txt x hx =>
      have w4 := word_is x hx
      have sl : x.length ≤ sizeLine := by have := so_ln x hx; rw [sizeLine_eq]; omega
      unfold word4 at w4
      refine ⟨_, rfl, _, _, _, _, true, rfl, .ty "str", .base (.str x), kit_ty (by decide +kernel), _, rfl, ?_⟩
      refine iteF ?_
      refine ⟨_, rfl, x, rfl, sl, _, _, rfl, rfl, _, rfl, ?_⟩
      have k : ∀ {b : Bool}, decide (x ∈ seven) = b → ∀ H', Same H H' → Q (.bl b) H' := fun e H' s => by subst e; exact k H' s
      cases h1 : decide ((1 : Int) ≤ (x.length : Int)) with
      | false =>
        rw [h1] at w4
        refine iteF ?_
        refine ⟨_, rfl, ?_⟩
        refine iteT ?_
        exact k w4.symm _ (Same.refl _)
      | true =>
        refine iteT ?_
        refine ⟨_, _, rfl, rfl, _, rfl, ?_⟩
        cases h2 : decide ((x.length : Int) ≤ 8) with
        | false =>
          rw [h1, h2] at w4
          refine iteT ?_
          exact k w4.symm _ (Same.refl _)
        | true =>
          refine iteF ?_
          rw [h1, h2] at w4
          refine ⟨_, rfl, by show 3 ≤ sizeLine; decide, fun t nt => ?_⟩
          have s1 := Same.new nt (o := .tup [.str "open", .str "shut", .str "net"])
          have h3 := upd_same (H := H) (a := t) (o := .tup [.str "open", .str "shut", .str "net"])
          refine ⟨t, resV, rfl, .inr (SqT.of h3), rfl, rfl, ?_⟩
          rw [if_neg Bool.false_ne_true]
          cases h4 : inV (.str x) resV with
          | true =>
            rw [h4] at w4
            refine ⟨_, rfl, ?_⟩
            refine iteT ?_
            exact k w4.symm _ s1
          | false =>
            rw [h4] at w4
            refine ⟨_, rfl, ?_⟩
            refine iteF ?_
            generalize upd H t (.tup [.str "open", .str "shut", .str "net"]) = H1 at s1 h3 ⊢
            refine ⟨_, rfl, x, rfl, fun D nD => ?_⟩
            refine lc_it walk_str (fun i H' => Same H1 H' ∧ H' D = some (.lst ((chN (x.cps.toList.take i)).map vCh))) ⟨Same.new nD, by rw [List.take_zero]; exact upd_same⟩ (fun i H' _ z => trivial) ?_ ?_
            · rintro i y H2 H3 hi ⟨s2, hD⟩ ⟨rfl, c, hc, rfl⟩
              have hc2 : x.cps.toList[i]? = some c := by rw [← hc]; exact Array.getElem?_toList ..
              have fl := List.length_filter_le ntAz (x.cps.toList.take i)
              have xl := so_ln x hx
              rw [len_list] at xl
              rw [List.length_take] at fl
              refine ⟨rfl, _, rfl, ⟨#[c]⟩, azS, rfl, rfl, _, rfl, ?_⟩
              have eN : chN (x.cps.toList.take (i + 1)) = chN (x.cps.toList.take i) ++ if ntAz c = true then [c] else [] := by
                unfold chN
                exact filter_snocB hc2
              show if ntAz c = true then _ else _
              cases z : ntAz c with
              | false =>
                refine iteF ?_
                refine ⟨s2, ?_⟩
                rw [eN, z, if_neg Bool.false_ne_true, List.append_nil]
                exact hD
              | true =>
                refine iteT ?_
                refine ⟨_, rfl, _, hD, by unfold chN; rw [List.length_map, sizeLine_eq]; omega, same_mut s2 nD, ?_⟩
                rw [upd_same, eN, z, if_pos rfl, List.map_append]
                rfl
            rintro H2 ⟨s2, hD⟩
            rw [List.take_of_length_le (by show x.cps.toList.length ≤ x.cps.size; simp)] at hD
            refine ⟨by show 0 ≤ sizeLine; decide, fun G nG => ?_⟩
            have sG := Same.new nG (o := .lst [])
            refine ⟨.list ((chN x.cps.toList).map dCh), .list [], .lst (SqL.of (sG _ _ hD)) (chs_dp _), .lst (SqL.of upd_same) .nil, chs_shaped (fun c hc => ch_ok x hx c (List.mem_filter.mp hc).1), by decide +kernel, ?_⟩
            rw [eqv_nilX]
            exact k w4.symm _ ((s1.trans s2).trans sG)
end
end RR
set_option maxHeartbeats 4000000
namespace RR
open PySem PySem.Spec PyProof.Rows L2
local macro_rules | `(tactic| walk_at "hp") => `(tactic| first | assumption | exact upd_same | (refine hp_new ?_ (by assumption); walk_at "hp") | (refine hp_mut ?_ (by first | assumption | (apply Ne.symm; assumption)); walk_at "hp") | (refine Same.at (by assumption) ?_; walk_at "hp"))
local macro_rules | `(tactic| walk_at "same") => `(tactic| first | exact fun _ _ z => z | assumption | (refine same_new ?_ (by assumption); walk_at "same") | (refine L2.Same.trans ?_ (by assumption); walk_at "same"))
local macro_rules | `(tactic| walk_at "sq") => `(tactic| exact SqL.of (by walk_at "hp"))
local macro_rules | `(tactic| walk_at "sqT") => `(tactic| exact SqT.of (by walk_at "hp"))

open LamX
section
variable {P : Program} {w : World} {K : PySem.W.Frag} {mg : Str → Option Value} {base : Heap}
theorem g__law_are_words (T : TX K mg) : FnG P w K mg base CX0 2 T.f__law_are_words (spAreN) := by
  refine okG T.F__law_are_words sc__law_are_words (bd__law_are_words T.F__law_are_words) (fun vs H Q E h => ?_) (fun cdv A out s H vs Q E hr fr h => ?_)
  · obtain ⟨v, d, rfl, hr0, ky, kn⟩ := h
    rfl
  · obtain ⟨v, d, rfl, hr0, ky, kn⟩ := h
    refine ⟨_, (pss_cons (ps_if (PW.pt (pw_or (pt_not (pt_val (pe_callB call_isi (by rfl) T.b_isinstance (by decide +kernel) (pa_cons (pv 0) (pa_cons (pe_bltn (v := .ty "tuple") (by rfl) T.b_tuple (by decide +kernel) rfl) pa_nil))))) (pw_or1 (pt_cmpR (show OpR _ _ (rNeD K) from op_neD hr.units) (pe_lc (own := [("_law_lhs", 1)]) (g := (gName 1)) (by rfl) sc__law_are_words.nd (show PI _ _ _ (iTup K (tVar 0)) from pi_tup (pv 0)) (blkOk_by (own := [("_law_lhs", 1)]) (N := N__law_are_words) (sc := defScope s__law_are_words) (by decide +kernel)) (fun _ _ _ _ _ => (pg_name (i := 1) sc__law_are_words.nd rfl (Or.inl rfl))) (fun _ _ _ _ _ => (pts_one (pt_not (pt_val (pe_callG (g__law_is_word T) (hr.mono (by decide)) fr (by rfl) T.m__law_is_word T.F__law_is_word.kp pass0 (pa_cons (pv 1) pa_nil)))))) (fun _ _ _ _ _ => (pv 1))) (pe_lst pa_nil) (nomark _))))) (pss_one (ps_ret pe_bl)) pss_nil)
 (pss_one (ps_ret (pe_cmpR (show OpR _ _ (rEqD K) from op_eqD hr.units) (pe_callTy call_list_of (by rfl) T.b_list (by decide +kernel) (pa_cons (pv 0) pa_nil)) (pe_callB (r := rSortKT P w) (cr_sortKT rfl (hu2_of hr)) (by rfl) T.b_sorted (by decide +kernel) (pa_cons (pe_callTy (r := rSetK K P w) (cr_setK rfl) (by rfl) T.b_set (by decide +kernel) (pa_cons (pe_lc (own := [("_law_lhs", 1)]) (g := (gName 1)) (tt := tYes) (by rfl) sc__law_are_words.nd (show PI _ _ _ (iTup K (tVar 0)) from pi_tup (pv 0)) (blkOk_by (own := [("_law_lhs", 1)]) (N := N__law_are_words) (sc := defScope s__law_are_words) (by decide +kernel)) (fun _ _ _ _ _ => (pg_name (i := 1) sc__law_are_words.nd rfl (Or.inl rfl))) (fun _ _ _ _ _ => pts_nil) (fun _ _ _ _ _ => (pe_callTy (r := rStrT) SkE.call_str_str (by rfl) T.b_str (by decide +kernel) (pa_cons (pv 1) pa_nil)))) pa_nil)) pa_nil)) (nomark _))))), ?_⟩
    cases hr0 with
    | lst e p l =>
      refine ⟨_, rfl, _, _, _, _, false, rfl, .ty "tuple", .base (.lst e), kit_ty (by decide +kernel), _, rfl, ?_⟩
      refine iteT ?_
      refine iteT ?_
      exact kn H (Same.refl H) (fun ns g => by obtain ⟨b, e1, e2, _⟩ := g; obtain rfl := V.ref.inj e1; rw [e] at e2; cases e2)
    | txt e l =>
      refine ⟨_, rfl, _, _, _, _, false, rfl, .ty "tuple", .base (.str _), kit_ty (by decide +kernel), _, rfl, ?_⟩
      refine iteT ?_
      refine iteT ?_
      exact kn H (Same.refl H) (fun ns g => by obtain ⟨b, e1, e2, _⟩ := g; cases e1)
    | non  =>
      refine ⟨_, rfl, _, _, _, _, false, rfl, .ty "tuple", .base .non, kit_ty (by decide +kernel), _, rfl, ?_⟩
      refine iteT ?_
      refine iteT ?_
      exact kn H (Same.refl H) (fun ns g => by obtain ⟨b, e1, e2, _⟩ := g; cases e1)
    | sev  =>
      refine ⟨_, rfl, _, _, _, _, false, rfl, .ty "tuple", .base (.int 7), kit_ty (by decide +kernel), _, rfl, ?_⟩
      refine iteT ?_
      refine iteT ?_
      exact kn H (Same.refl H) (fun ns g => by obtain ⟨b, e1, e2, _⟩ := g; cases e1)
    | dic e =>
      refine ⟨_, rfl, _, _, _, _, false, rfl, .ty "tuple", .base (.dK e), kit_ty (by decide +kernel), _, rfl, ?_⟩
      refine iteT ?_
      refine iteT ?_
      exact kn H (Same.refl H) (fun ns g => by obtain ⟨b, e1, e2, _⟩ := g; obtain rfl := V.ref.inj e1; rw [e] at e2; cases e2)
    | @tup a xs ds e p l =>
      have dsl := Paired.length p
      refine ⟨_, rfl, _, _, _, _, true, rfl, .ty "tuple", .base (.tup e), kit_ty (by decide +kernel), _, rfl, ?_⟩
      refine iteF ?_
      refine ⟨_, rfl, a, rfl, ⟨_, SqT.of e⟩, fun D nD => ?_⟩
      refine lc_tup (xs := xs) (fun i H' => Same H H' ∧ H' D = some (.lst ((xs.take i).filter fun v => !yesV v))) ⟨Same.new nD, by rw [List.take_zero]; exact upd_same⟩ (fun i H' _ z => SqT.of (z.1 _ _ e)) ?_ ?_
      · rintro i y H1 hy ⟨s1, hD⟩
        obtain ⟨d, ed, hi⟩ := pair_at p hy
        have fl := List.length_filter_le (fun v => !yesV v) (xs.take i)
        rw [List.length_take] at fl
        refine ⟨rfl, _, rfl, y, d, rfl, hi.st (StT.same s1), fun H2 s2 => ?_⟩
        have hD2 := s2 _ _ hD
        refine ⟨_, rfl, ?_⟩
        cases z : yesV y with
        | true =>
          refine iteF ?_
          refine ⟨s1.trans s2, ?_⟩
          rw [filter_snocB hy, z, if_neg (by decide), List.append_nil]
          exact hD2
        | false =>
          refine iteT ?_
          refine ⟨_, rfl, _, hD2, by rw [sizeLine_eq]; omega, same_mut (s1.trans s2) nD, ?_⟩
          rw [upd_same, filter_snocB hy, z, if_pos (by decide)]
      rintro H1 ⟨s1, hD⟩
      rw [List.take_length] at hD
      refine ⟨by show 0 ≤ sizeLine; decide, fun G nG => ?_⟩
      have sG := Same.new nG (o := .lst [])
      have SG := s1.trans sG
      obtain ⟨es, pe0⟩ := itms_filter (fun v => !yesV v) p
      have pe1 : Paired (Itm _) _ es := Paired.mono (fun _ _ h => h.st (StT.same SG)) pe0
      refine ⟨.list es, .list [], .lst (SqL.of (sG _ _ hD)) (itms_data pe1).1, .lst (SqL.of upd_same) .nil, itms_shaped (K := K) pe1, by decide +kernel, ?_⟩
      rw [eqv_nilP pe1, filter_no]
      by_cases al : xs.all yesV = true
      · rw [al]
        refine ⟨_, rfl, ?_⟩
        refine iteF ?_
        obtain ⟨ns, rfl, hns⟩ := all_names al
        generalize upd H1 G (.lst []) = H2 at SG ⊢
        have e1 := SG _ _ e
        refine ⟨_, rfl, a, _, rfl, .inr (SqT.of e1), fun L nL => ?_⟩
        have sL := Same.new nL (o := .lst (ns.map V.str))
        have hL := upd_same (H := H2) (a := L) (o := .lst (ns.map V.str))
        have S3 := SG.trans sL
        generalize upd H2 L (.lst (ns.map V.str)) = H3 at sL hL S3 ⊢
        rw [List.length_map] at l
        refine ⟨_, rfl, a, rfl, ⟨_, SqT.of (S3 _ _ e)⟩, fun M nM => ?_⟩
        refine lc_tup (xs := ns.map V.str) (fun i H' => Same H3 H' ∧ H' M = some (.lst ((ns.take i).map V.str))) ⟨Same.new nM, by rw [List.take_zero]; exact upd_same⟩ (fun i H' _ z => SqT.of (z.1 _ _ (S3 _ _ e))) ?_ ?_
        · rintro i y H4 hy ⟨s4, hM⟩
          rw [List.getElem?_map] at hy
          obtain ⟨n, en, rfl⟩ := Option.map_eq_some_iff.mp hy
          refine ⟨rfl, _, rfl, n, rfl, ?_⟩
          refine ⟨_, hM, by rw [List.length_map, List.length_take, sizeLine_eq]; omega, same_mut s4 nM, ?_⟩
          rw [upd_same, List.take_add_one, en, Option.toList_some, List.map_append]
          rfl
        rintro H4 ⟨s4, hM⟩
        rw [List.length_map, List.take_length] at hM
        have ev : ns.map V.str = (ns.map (Sum.inr : Str → Key)).map kV := by rw [List.map_map]; rfl
        refine ⟨M, ns.map Sum.inr, rfl, SqL.of (by rw [← ev]; exact hM), by rw [List.length_map]; omega, fun x ks nx m => ?_⟩
        refine ⟨x, ks, ns, rfl, upd_same, m, by omega, fun q nq => ?_⟩
        have s5 := (Same.new nx (o := KeysO P w x ks)).trans (Same.new nq (o := .lst ((onceS ns).map V.str)))
        have s45 := s4.trans s5
        refine ⟨.list (ns.map PyData.str), .list ((onceS ns).map PyData.str), .lst (SqL.of (s45 _ _ hL)) (dp_strsT _), .lst (SqL.of upd_same) (dp_strsT _), strs_shaped7 hns, strs_shaped7 fun n hn => hns n (onceS_mem.mp hn), ?_⟩
        rw [eqv_strs]
        have S := S3.trans s45
        by_cases eo : ns = onceS ns
        · rw [decide_eq_true eo]
          exact ky ns _ S ⟨a, rfl, e, hns, eo.symm⟩
        · rw [decide_eq_false eo]
          refine kn _ S fun ms gm => ?_
          obtain ⟨b, e1, e2, e3, e4⟩ := gm
          obtain rfl := V.ref.inj e1
          rw [e] at e2
          injection e2 with e2
          injection e2 with e2
          obtain rfl := strs_inj e2
          exact eo e4.symm
      · rw [Bool.eq_false_iff.mpr al]
        refine ⟨_, rfl, ?_⟩
        refine iteT ?_
        exact kn _ SG (not_gd_all e al)
end
end RR
set_option maxHeartbeats 4000000
namespace RR
open PySem PySem.Spec PyProof.Rows L2
local macro_rules | `(tactic| walk_at "hp") => `(tactic| first | assumption | exact upd_same | (refine hp_new ?_ (by assumption); walk_at "hp") | (refine hp_mut ?_ (by first | assumption | (apply Ne.symm; assumption)); walk_at "hp") | (refine Same.at (by assumption) ?_; walk_at "hp"))
local macro_rules | `(tactic| walk_at "same") => `(tactic| first | exact fun _ _ z => z | assumption | (refine same_new ?_ (by assumption); walk_at "same") | (refine L2.Same.trans ?_ (by assumption); walk_at "same"))
local macro_rules | `(tactic| walk_at "sq") => `(tactic| exact SqL.of (by walk_at "hp"))
local macro_rules | `(tactic| walk_at "sqT") => `(tactic| exact SqT.of (by walk_at "hp"))

open LamX
section
variable {P : Program} {w : World} {K : PySem.W.Frag} {mg : Str → Option Value} {base : Heap}
theorem g__law_names (T : TX K mg) : FnG P w K mg base CX0 3 T.f__law_names (spNamesT) := by
  refine okG T.F__law_names sc__law_names (bd__law_names T.F__law_names) (fun vs H Q E h => ?_) (fun cdv A out s H vs Q E hr fr h => ?_)
  · obtain ⟨l, xs, ls, rfl, hl, tl, few, k⟩ := h
    rfl
  · obtain ⟨l, xs, ls, rfl, hl, tl, few, k⟩ := h
    refine ⟨_, (pss_one (ps_ret (pe_callB (r := rSortKT P w) (cr_sortKT rfl (hu2_of hr)) (by rfl) T.b_sorted (by decide +kernel) (pa_cons (pe_callTy (r := rSetK K P w) (cr_setK rfl) (by rfl) T.b_set (by decide +kernel) (pa_cons (pe_lc (own := [("_law_link", 1)]) (g := (gName 1)) (tt := tYes) (by rfl) sc__law_names.nd (pi_list (pv 0)) (blkOk_by (own := [("_law_link", 1)]) (N := N__law_names) (sc := defScope s__law_names) (by decide +kernel)) (fun _ _ _ _ _ => (pg_name (i := 1) sc__law_names.nd rfl (Or.inl rfl))) (fun _ _ _ _ _ => pts_nil) (fun _ _ _ _ _ => (pe_callTy SkE.call_str_str (by rfl) T.b_str (by decide +kernel) (pa_cons (pe_ix (r := rIxT K) ix_tup (pv 1) pe_int (fun _ _ => rfl)) pa_nil)))) pa_nil)) pa_nil)))), ?_⟩
    have tln := tl.len
    refine ⟨_, rfl, l, rfl, ⟨_, SqL.of hl⟩, fun D nD => ?_⟩
    refine lc_list (xs := xs) (fun i H' => Same H H' ∧ H' D = some (.lst ((ls.take i).map fun l => V.str l.1))) ⟨Same.new nD, by rw [List.take_zero]; exact upd_same⟩ (fun i H' _ z => SqL.of (z.1 _ _ hl)) ?_ ?_
    · rintro i y H1 hy ⟨s1, hD⟩
      obtain ⟨k0, el, r, rfl, hr0⟩ := pair_at tl hy
      refine ⟨rfl, _, rfl, _, _, _, _, rfl, rfl, SqT.of (s1 _ _ hr0), rfl, k0.1, rfl, _, hD, by rw [List.length_map, List.length_take, sizeLine_eq]; omega, same_mut s1 nD, ?_⟩
      rw [upd_same, List.take_add_one, el, List.map_append]
      rfl
    rintro H1 ⟨s1, hD⟩
    rw [tln, List.take_length] at hD
    have ev : (ls.map fun l : Lk => V.str l.1) = ((ls.map fun l : Lk => l.1).map (Sum.inr : Str → Key)).map kV := by
      simp only [List.map_map]
      rfl
    refine ⟨D, _, rfl, SqL.of (hD.trans (by rw [ev])), by simp only [List.length_map]; omega, fun a ks na m => ?_⟩
    refine ⟨a, ks, _, rfl, upd_same, m, by simp only [List.length_map]; omega, fun p np => ?_⟩
    exact k p _ ((s1.trans (Same.new na)).trans (Same.new np)) ((s1.trans (Same.new na)).free np) upd_same
theorem g__law_joined (T : TX K mg) : FnG P w K mg base CX0 4 T.f__law_joined (spJndT K) := by
  refine okG T.F__law_joined sc__law_joined (bd__law_joined T.F__law_joined) (fun vs H Q E h => ?_) (fun cdv A out s H vs Q E hr fr h => ?_)
  · obtain ⟨l, v, xs, ls, ns, rfl, hl, tl, hv, few, k⟩ := h
    rfl
  · obtain ⟨l, v, xs, ls, ns, rfl, hl, tl, hv, few, k⟩ := h
    refine ⟨_, (pss_cons (ps_set (i := 2) sc__law_joined.nd rfl (Or.inl rfl) (pe_lst (pa_cons pe_int pa_nil)))
 (pss_cons (ps_set (i := 3) sc__law_joined.nd rfl (Or.inl rfl) pe_bl)
 (pss_cons (ps_while PassesOwn.never (pt_val (pv 3)) (pss_cons (ps_set (i := 3) sc__law_joined.nd rfl (Or.inl rfl) pe_bl)
 (pss_one (ps_for PassesOwn.never rfl (pi_list (pv 0)) (pg_tup (by rfl) (pgs_cons (pg_name (i := 4) sc__law_joined.nd rfl (Or.inl rfl)) (pgs_cons (pg_name (i := 5) sc__law_joined.nd rfl (Or.inl rfl)) (pgs_cons (pg_name (i := 6) sc__law_joined.nd rfl (Or.inl rfl)) pgs_nil))))
 (pss_one (ps_if (PW.pt (pw_and (pt_cmpR (show OpR _ (compareOp .In) (rIn K false) from op_in_seq) (pv 4) (pv 1) (by rfl)) (pw_and1 (pt_cmpR op_ne (pe_cmpR (show OpR _ (compareOp .In) (rIn K false) from op_in_seq) (pv 5) (pv 2) (by rfl)) (pe_cmpR (show OpR _ (compareOp .In) (rIn K false) from op_in_seq) (pv 6) (pv 2) (by rfl)) (nomark _))))) (pss_cons (ps_expr (pe_bm PySem.F.plainAttrs_list PySem.F.slot_list_append PySem.F.type_list_append mt_append (pv 2) (pa_cons (pe_ifExp (pt_cmpR (show OpR _ (compareOp .In) (rIn K false) from op_in_seq) (pv 5) (pv 2) (by rfl)) (pv 6) (pv 5)) pa_nil)))
 (pss_one (ps_set (i := 3) sc__law_joined.nd rfl (Or.inl rfl) pe_bl))) pss_nil))))))
 (pss_one (ps_ret (pe_cmpR (show OpR _ (compareOp .In) (rIn K false) from op_in_seq) pe_int (pv 2) (by rfl))))))), ?_⟩
    have tln := tl.len
    obtain ⟨lv, rfl, hv0⟩ := hv
    refine ⟨by show 1 ≤ sizeLine; decide, fun D nD => ?_⟩
    have S0 := Same.new nD (o := .lst [.int 0])
    have hD := upd_same (H := H) (a := D) (o := .lst [.int 0])
    generalize upd H D (.lst [.int 0]) = H0 at S0 hD ⊢
    refine gname_nx ?_
    dsimp only
    refine seq_of ?_
    refine gname_nx ?_
    dsimp only
    refine seq_of ?_
    refine ⟨fun m σ H' => ∃ b js b4 b5 b6, σ = [some (.ref l), some (.ref lv), some (.ref D), some (.bl b), b4, b5, b6] ∧ Same H H' ∧ H' D = some (.lst ((js : List Int).map V.int)) ∧ Knw ns ls js ∧ (b = false → ∀ k ∈ ls, k.1 ∈ ns → (k.2.1 ∈ js ↔ k.2.2 ∈ js)) ∧ m = (if b = true then 2 * ls.length + 2 - js.length else 0), ⟨_, true, [0], _, _, _, rfl, S0, hD, knw_start ns ls, fun z => (by cases z), rfl⟩, ?_⟩
    rintro m σ H1 ⟨b, js, b4, b5, b6, rfl, s1, h1, kn, cl, em⟩
    have jl := kn.len
    refine ⟨_, rfl, b, rfl, ?_⟩
    cases b
    · refine iteF ?_
      refine ⟨_, rfl, D, _, rfl, .inl (SqL.of h1), rfl, flat_intsX _, ?_⟩
      rw [if_neg Bool.false_ne_true, inV_intsX]
      exact k _ H1 s1 (by rw [decide_eq_true_eq]; exact knw_end kn (cl rfl))
    refine iteT ?_
    rw [if_pos rfl] at em
    refine ⟨_, fun σ' H' h => h, ?_⟩
    refine gname_nx ?_
    dsimp only
    refine ⟨_, rfl, l, rfl, ⟨_, SqL.of (s1 _ _ hl)⟩, ?_⟩
    refine for_list (xs := xs) (fun i σ H' => ∃ b' js' b4 b5 b6, σ = [some (.ref l), some (.ref lv), some (.ref D), some (.bl b'), b4, b5, b6] ∧ Same H H' ∧ H' D = some (.lst ((js' : List Int).map V.int)) ∧ Knw ns ls js' ∧ js.length ≤ js'.length ∧ (b' = true → js.length < js'.length) ∧ (b' = false → js' = js ∧ ∀ k ∈ ls.take i, k.1 ∈ ns → (k.2.1 ∈ js ↔ k.2.2 ∈ js))) ⟨false, js, _, _, _, rfl, s1, h1, kn, Nat.le_refl _, fun z => (by cases z), fun _ => ⟨rfl, fun k hk => by rw [List.take_zero] at hk; cases hk⟩⟩ (fun i σ H' _ z => by obtain ⟨_, _, _, _, _, _, h, _⟩ := z; exact SqL.of (h _ _ hl)) ?_ ?_
    · rintro i y σ H2 hy ⟨b', js', c4, c5, c6, rfl, s2, h2, kn2, l1, l2, l3⟩
      obtain ⟨k0, ek, w, rfl, hw⟩ := pair_at tl hy
      have hw := s2 _ _ hw
      have km := List.mem_of_getElem? ek
      have j2 := kn2.len
      have skip : (k0.1 ∈ ns → (k0.2.1 ∈ js' ↔ k0.2.2 ∈ js')) → (b' = false → js' = js ∧ ∀ k ∈ ls.take (i + 1), k.1 ∈ ns → (k.2.1 ∈ js ↔ k.2.2 ∈ js)) := fun h z => by
        obtain ⟨e1, e2⟩ := l3 z
        subst e1
        refine ⟨rfl, fun k hk => ?_⟩
        rw [List.take_add_one, ek] at hk
        rcases List.mem_append.mp hk with hk | hk
        · exact e2 k hk
        · rw [List.mem_singleton.mp hk]; exact h
      refine ⟨w, _, rfl, SqT.of hw, rfl, _, _, rfl, _, _, rfl, _, _, rfl, rfl, ?_⟩
      refine ⟨_, rfl, _, rfl, lv, _, rfl, hv0.imp (sqL_st s2) (sqT_st s2), rfl, flat_nmsX _, _, rfl, ?_⟩
      rw [if_neg Bool.false_ne_true, inV_nmsX]
      by_cases e : k0.1 ∈ ns
      · rw [decide_eq_true e]
        refine iteT ?_
        refine ⟨_, rfl, _, rfl, D, _, rfl, .inl (SqL.of h2), rfl, flat_intsX _, ?_⟩
        rw [if_neg Bool.false_ne_true, inV_intsX]
        refine ⟨_, rfl, _, rfl, D, _, rfl, .inl (SqL.of h2), rfl, flat_intsX _, ?_⟩
        rw [if_neg Bool.false_ne_true, inV_intsX]
        refine ⟨rfl, _, rfl, ?_⟩
        by_cases hu : k0.2.1 ∈ js'
        · by_cases hv : k0.2.2 ∈ js'
          · rw [decide_eq_true hu, decide_eq_true hv, decide_eq_true rfl]
            refine iteF ?_
            exact ⟨b', js', _, _, _, rfl, s2, h2, kn2, l1, l2, skip fun _ => ⟨fun _ => hv, fun _ => hu⟩⟩
          · rw [decide_eq_true hu, decide_eq_false hv, decide_eq_false (fun z => by cases z)]
            refine iteT ?_
            refine ⟨_, rfl, .inl ⟨rfl, _, SqL.of h2⟩, _, rfl, _, rfl, D, _, rfl, .inl (SqL.of h2), rfl, flat_intsX _, _, rfl, ?_⟩
            rw [if_neg Bool.false_ne_true, inV_intsX, decide_eq_true hu]
            refine iteT ?_
            refine ⟨_, rfl, D, _, _, rfl, rfl, h2, by rw [List.length_map, sizeLine_eq]; omega, ?_⟩
            have kn3 := knw_more kn2 km e (a := k0.2.1) (b := k0.2.2) (.inl ⟨rfl, rfl⟩) hu hv
            exact ⟨true, js' ++ [k0.2.2], _, _, _, rfl, same_mut s2 nD, by rw [upd_same, List.map_append]; rfl, kn3, by rw [List.length_append]; omega, fun _ => by rw [List.length_append]; show _ < _ + 1; omega, fun z => (by cases z)⟩
        · by_cases hv : k0.2.2 ∈ js'
          · rw [decide_eq_false hu, decide_eq_true hv, decide_eq_false (fun z => by cases z)]
            refine iteT ?_
            refine ⟨_, rfl, .inl ⟨rfl, _, SqL.of h2⟩, _, rfl, _, rfl, D, _, rfl, .inl (SqL.of h2), rfl, flat_intsX _, _, rfl, ?_⟩
            rw [if_neg Bool.false_ne_true, inV_intsX, decide_eq_false hu]
            refine iteF ?_
            refine ⟨_, rfl, D, _, _, rfl, rfl, h2, by rw [List.length_map, sizeLine_eq]; omega, ?_⟩
            have kn3 := knw_more kn2 km e (a := k0.2.2) (b := k0.2.1) (.inr ⟨rfl, rfl⟩) hv hu
            exact ⟨true, js' ++ [k0.2.1], _, _, _, rfl, same_mut s2 nD, by rw [upd_same, List.map_append]; rfl, kn3, by rw [List.length_append]; omega, fun _ => by rw [List.length_append]; show _ < _ + 1; omega, fun z => (by cases z)⟩
          · rw [decide_eq_false hu, decide_eq_false hv, decide_eq_true rfl]
            refine iteF ?_
            exact ⟨b', js', _, _, _, rfl, s2, h2, kn2, l1, l2, skip fun _ => ⟨fun z => absurd z hu, fun z => absurd z hv⟩⟩
      · rw [decide_eq_false e]
        refine iteF ?_
        exact ⟨b', js', _, _, _, rfl, s2, h2, kn2, l1, l2, skip fun z => absurd z e⟩
    rintro σ H2 ⟨b', js', c4, c5, c6, rfl, s2, h2, kn2, l1, l2, l3⟩
    have j2 := kn2.len
    cases b'
    · obtain ⟨rfl, e2⟩ := l3 rfl
      rw [tln, List.take_length] at e2
      exact ⟨0, by omega, false, js', _, _, _, rfl, s2, h2, kn2, fun _ => e2, rfl⟩
    · have := l2 rfl
      exact ⟨2 * ls.length + 2 - js'.length, by omega, true, js', _, _, _, rfl, s2, h2, kn2, fun z => (by cases z), rfl⟩
end
end RR
set_option maxHeartbeats 4000000
namespace RR
open PySem PySem.Spec PyProof.Rows L2
local macro_rules | `(tactic| walk_at "hp") => `(tactic| first | assumption | exact upd_same | (refine hp_new ?_ (by assumption); walk_at "hp") | (refine hp_mut ?_ (by first | assumption | (apply Ne.symm; assumption)); walk_at "hp") | (refine Same.at (by assumption) ?_; walk_at "hp"))
local macro_rules | `(tactic| walk_at "same") => `(tactic| first | exact fun _ _ z => z | assumption | (refine same_new ?_ (by assumption); walk_at "same") | (refine L2.Same.trans ?_ (by assumption); walk_at "same"))
local macro_rules | `(tactic| walk_at "sq") => `(tactic| exact SqL.of (by walk_at "hp"))
local macro_rules | `(tactic| walk_at "sqT") => `(tactic| exact SqT.of (by walk_at "hp"))

open LamX
section
variable {P : Program} {w : World} {K : PySem.W.Frag} {mg : Str → Option Value} {base : Heap}
theorem g__law_due (T : TX K mg) : FnG P w K mg base CX0 5 T.f__law_due (spDueX) := by
  refine okG T.F__law_due sc__law_due (bd__law_due T.F__law_due) (fun vs H Q E h => ?_) (fun cdv A out s H vs Q E hr fr h => ?_)
  · obtain ⟨u1, u2, q1, q2, v1, v2, d1, d2, rfl, M1, M2, R1, R2, k⟩ := h
    rfl
  · obtain ⟨u1, u2, q1, q2, v1, v2, d1, d2, rfl, M1, M2, R1, R2, k⟩ := h
    refine ⟨_, (pss_cons (ps_if (PW.pt (pw_or (pt_not (pt_val (pe_callG (g__law_are_words T) (hr.mono (by decide)) fr (by rfl) T.m__law_are_words T.F__law_are_words.kp pass0 (pa_cons (pv 2) pa_nil)))) (pw_or1 (pt_not (pt_val (pe_callG (g__law_are_words T) (hr.mono (by decide)) fr (by rfl) T.m__law_are_words T.F__law_are_words.kp pass0 (pa_cons (pv 3) pa_nil))))))) (pss_one (ps_ret pe_bl)) pss_nil)
 (pss_cons (ps_if (pt_cmpR (show OpR _ _ (rNeD K) from op_neD hr.units) (pe_lc (own := [("_law_name", 4)]) (g := (gName 4)) (by rfl) sc__law_due.nd (show PI _ _ _ (iTup K (tVar 2)) from pi_tup (pv 2)) (blkOk_by (own := [("_law_name", 4)]) (N := N__law_due) (sc := defScope s__law_due) (by decide +kernel)) (fun _ _ _ _ _ => (pg_name (i := 4) sc__law_due.nd rfl (Or.inl rfl))) (fun _ _ _ _ _ => (pts_one (pt_cmpR (show OpR _ (compareOp .In) (rIn K false) from op_in_seq) (pv 4) (pv 3) (by rfl)))) (fun _ _ _ _ _ => (pv 4))) (pe_lst pa_nil) (nomark _)) (pss_one (ps_ret pe_bl)) pss_nil)
 (pss_cons (ps_if (PW.pt (pw_and (pt_cmpR op_notN (pv 0) pe_non (nomark _)) (pw_and1 (pt_not (pt_val (pe_callG (g__law_joined T) (hr.mono (by decide)) fr (by rfl) T.m__law_joined T.F__law_joined.kp pass0 (pa_cons (pv 0) (pa_cons (pv 2) pa_nil)))))))) (pss_one (ps_ret pe_bl)) pss_nil)
 (pss_cons (ps_if (pt_cmpR op_isN (pv 1) pe_non (nomark _)) (pss_one (ps_ret pe_bl)) pss_nil)
 (pss_one (ps_ret (pe_not (pe_callG (g__law_joined T) (hr.mono (by decide)) fr (by rfl) T.m__law_joined T.F__law_joined.kp pass0 (pa_cons (pv 1) (pa_cons (pe_lc (own := [("_law_name", 4)]) (g := (gName 4)) (by rfl) sc__law_due.nd (pi_list (pe_callG (g__law_names T) (hr.mono (by decide)) fr (by rfl) T.m__law_names T.F__law_names.kp pass0 (pa_cons (pv 1) pa_nil))) (blkOk_by (own := [("_law_name", 4)]) (N := N__law_due) (sc := defScope s__law_due) (by decide +kernel)) (fun _ _ _ _ _ => (pg_name (i := 4) sc__law_due.nd rfl (Or.inl rfl))) (fun _ _ _ _ _ => (pts_one (pt_cmpR (show OpR _ (compareOp .NotIn) (rIn K true) from op_notIn_seq) (pv 4) (pv 3) (by rfl)))) (fun _ _ _ _ _ => (pv 4))) pa_nil)))))))))), ?_⟩
    refine ⟨_, rfl, v1, d1, rfl, R1, fun ns H1 s1 g1 => ?_, fun H1 s1 no => ?_⟩
    rotate_left
    · refine ⟨_, rfl, ?_⟩
      refine iteT ?_
      refine iteT ?_
      exact k false _ s1 ⟨fun z => (by cases z), fun z => (apart_no1 no z).elim⟩
    refine ⟨_, rfl, ?_⟩
    refine iteF ?_
    refine ⟨_, rfl, v2, d2, rfl, R2.st s1, fun ms H2 s2 g2 => ?_, fun H2 s2 no => ?_⟩
    rotate_left
    · refine ⟨_, rfl, ?_⟩
      refine iteT ?_
      exact k false _ (s1.trans s2) ⟨fun z => (by cases z), fun z => (apart_no2 (fun ns g => no ns (g.same s1)) z).elim⟩
    refine ⟨_, rfl, ?_⟩
    refine iteF ?_
    have S2 := s1.trans s2
    have G2 := g2.back R2 s1
    obtain ⟨a1, rfl, e1, n1, o1⟩ := id g1
    obtain ⟨a2, rfl, e2, n2, o2⟩ := id G2
    have l1 := g1.len
    have l2 := g2.len
    have h1 := S2 _ _ e1
    have h2 := S2 _ _ e2
    have AP := apart_iff (s := shO q1) (t := shO q2) g1 G2
    refine ⟨_, rfl, a1, rfl, ⟨_, SqT.of h1⟩, fun D nD => ?_⟩
    refine lc_tup (xs := ns.map V.str) (fun i H' => Same H2 H' ∧ H' D = some (.lst (((ns.take i).filter fun n => decide (n ∈ ms)).map V.str))) ⟨Same.new nD, by rw [List.take_zero]; exact upd_same⟩ (fun i H' _ z => SqT.of (z.1 _ _ h1)) ?_ ?_
    · rintro i y H3 hy ⟨s3, hD⟩
      rw [List.getElem?_map] at hy
      obtain ⟨n, en, rfl⟩ := Option.map_eq_some_iff.mp hy
      have fl := List.length_filter_le (fun n => decide (n ∈ ms)) (ns.take i)
      rw [List.length_take] at fl
      refine ⟨rfl, _, rfl, _, rfl, a2, _, rfl, .inr (SqT.of (s3 _ _ h2)), rfl, flat_nmsX _, _, rfl, ?_⟩
      rw [if_neg Bool.false_ne_true, inV_nmsX]
      by_cases z : n ∈ ms
      · rw [decide_eq_true z]
        refine iteT ?_
        refine ⟨_, rfl, _, hD, by rw [List.length_map, sizeLine_eq]; omega, same_mut s3 nD, ?_⟩
        rw [upd_same, filter_snocB en, if_pos (by rw [decide_eq_true z]), List.map_append]
        rfl
      · rw [decide_eq_false z]
        refine iteF ?_
        refine ⟨s3, ?_⟩
        rw [filter_snocB en, if_neg (by rw [decide_eq_false z]; decide), List.append_nil]
        exact hD
    rintro H3 ⟨s3, hD⟩
    rw [List.length_map, List.take_length] at hD
    refine ⟨by show 0 ≤ sizeLine; decide, fun G nG => ?_⟩
    have sG := Same.new nG (o := .lst [])
    have S3 := (S2.trans s3).trans sG
    refine ⟨.list ((ns.filter fun n => decide (n ∈ ms)).map PyData.str), .list [], .lst (SqL.of (sG _ _ hD)) (dp_strsT _), .lst (SqL.of upd_same) .nil, strs_shaped7 fun n hn => n1 n (List.mem_filter.mp hn).1, by decide +kernel, _, rfl, ?_⟩
    rw [eqv_nilX]
    by_cases dj : ∀ n ∈ ns, n ∉ ms
    rotate_left
    · have ne : (ns.filter fun n => decide (n ∈ ms)).isEmpty = false := by
        rw [Bool.eq_false_iff]
        intro z
        rw [List.isEmpty_iff, List.filter_eq_nil_iff] at z
        exact dj fun n hn e => z n hn (decide_eq_true e)
      rw [ne]
      refine iteT ?_
      exact k false _ S3 ⟨fun z => (by cases z), fun z => (dj (AP.mp z).1).elim⟩
    have ye : (ns.filter fun n => decide (n ∈ ms)).isEmpty = true := by
      rw [List.isEmpty_iff, List.filter_eq_nil_iff]
      exact fun n hn z => dj n hn (of_decide_eq_true z)
    rw [ye]
    refine iteF ?_
    generalize upd H3 G (.lst []) = H4 at S3 ⊢
    clear sG hD s3
    rcases M1 with ⟨rfl, rfl⟩ | ⟨l3, xs3, ls3, rfl, rfl, hl3, tl3, lk3, ln3⟩
    · refine ⟨_, rfl, rfl, _, rfl, ?_⟩
      refine iteF ?_
      have hj : joinsB ns (shO none) := joins_opnB ns
      rcases M2 with ⟨rfl, rfl⟩ | ⟨l2, xs2, ls2, rfl, rfl, hl2, tl2, lk2, ln2⟩
      · refine ⟨_, rfl, rfl, _, rfl, ?_⟩
        refine iteT ?_
        exact k false _ S3 ⟨fun z => (by cases z), fun z => ((AP.mp z).2.2 (joins_opnB _)).elim⟩
      refine ⟨_, rfl, rfl, _, rfl, ?_⟩
      refine iteF ?_
      refine ⟨_, rfl, _, rfl, l2, xs2, ls2, rfl, S3 _ _ hl2, tl2.st (StT.same S3), by omega, fun q H6 s6 nq hq => ?_⟩
      have S6 := S3.trans s6
      refine ⟨q, rfl, ⟨_, SqL.of hq⟩, fun E nE => ?_⟩
      have nml := names_len ls2
      refine lc_list (xs := (namesL ls2).map V.str) (fun i H' => Same H6 H' ∧ H' E = some (.lst ((((namesL ls2).take i).filter fun n => !decide (n ∈ ms)).map V.str))) ⟨Same.new nE, by rw [List.take_zero]; exact upd_same⟩ (fun i H' _ z => SqL.of (z.1 _ _ hq)) ?_ ?_
      · rintro i w H7 hy ⟨s7, hE⟩
        rw [List.getElem?_map] at hy
        obtain ⟨n, en, rfl⟩ := Option.map_eq_some_iff.mp hy
        have fl := List.length_filter_le (fun n => !decide (n ∈ ms)) ((namesL ls2).take i)
        rw [List.length_take] at fl
        refine ⟨rfl, _, rfl, _, rfl, a2, _, rfl, .inr (SqT.of ((S6.trans s7) _ _ e2)), rfl, flat_nmsX _, _, rfl, ?_⟩
        rw [if_pos rfl, inV_nmsX]
        by_cases z : n ∈ ms
        · rw [decide_eq_true z]
          refine iteF ?_
          refine ⟨s7, ?_⟩
          rw [filter_snocB en, if_neg (by rw [decide_eq_true z]; decide), List.append_nil]
          exact hE
        · rw [decide_eq_false z]
          refine iteT ?_
          refine ⟨_, rfl, _, hE, by rw [List.length_map, sizeLine_eq]; omega, same_mut s7 nE, ?_⟩
          rw [upd_same, filter_snocB en, if_pos (by rw [decide_eq_false z]; rfl), List.map_append]
          rfl
      rintro H7 ⟨s7, hE⟩
      rw [List.length_map, List.take_length] at hE
      have S7 := S6.trans s7
      refine ⟨l2, .ref E, xs2, ls2, _, rfl, S7 _ _ hl2, tl2.st (StT.same S7), ⟨E, rfl, .inl (SqL.of hE)⟩, by omega, fun b2 H8 s8 hb2 => ?_⟩
      refine ⟨b2, rfl, k _ _ (S7.trans s8) ?_⟩
      rw [AP]
      have hr : joinsB _ (netB ls2) ↔ b2 = true := (joins_rest lk2).trans hb2.symm
      cases b2
      · exact ⟨fun _ => ⟨dj, hj, fun z => by have := hr.mp z; cases this⟩, fun _ => rfl⟩
      · exact ⟨fun z => (by cases z), fun z => (z.2.2 (hr.mpr rfl)).elim⟩
    refine ⟨_, rfl, rfl, _, rfl, ?_⟩
    refine iteT ?_
    refine ⟨_, rfl, _, rfl, l3, .ref a1, xs3, ls3, ns, rfl, S3 _ _ hl3, tl3.st (StT.same S3), ⟨a1, rfl, .inr (SqT.of (S3 _ _ e1))⟩, by omega, fun b1 H5 s5 hb1 => ?_⟩
    have S5 := S3.trans s5
    have hjj : joinsB ns (shO (some ls3)) ↔ b1 = true := (netB_con fun k hk => (lk3 k hk).lok).trans hb1.symm
    cases b1
    · refine ⟨_, rfl, ?_⟩
      refine iteT ?_
      exact k false _ S5 ⟨fun z => (by cases z), fun z => hjj.mp (AP.mp z).2.1⟩
    refine ⟨_, rfl, ?_⟩
    refine iteF ?_
    have hj := hjj.mpr rfl
    rcases M2 with ⟨rfl, rfl⟩ | ⟨l2, xs2, ls2, rfl, rfl, hl2, tl2, lk2, ln2⟩
    · refine ⟨_, rfl, rfl, _, rfl, ?_⟩
      refine iteT ?_
      exact k false _ S5 ⟨fun z => (by cases z), fun z => ((AP.mp z).2.2 (joins_opnB _)).elim⟩
    refine ⟨_, rfl, rfl, _, rfl, ?_⟩
    refine iteF ?_
    refine ⟨_, rfl, _, rfl, l2, xs2, ls2, rfl, S5 _ _ hl2, tl2.st (StT.same S5), by omega, fun q H6 s6 nq hq => ?_⟩
    have S6 := S5.trans s6
    refine ⟨q, rfl, ⟨_, SqL.of hq⟩, fun E nE => ?_⟩
    have nml := names_len ls2
    refine lc_list (xs := (namesL ls2).map V.str) (fun i H' => Same H6 H' ∧ H' E = some (.lst ((((namesL ls2).take i).filter fun n => !decide (n ∈ ms)).map V.str))) ⟨Same.new nE, by rw [List.take_zero]; exact upd_same⟩ (fun i H' _ z => SqL.of (z.1 _ _ hq)) ?_ ?_
    · rintro i w H7 hy ⟨s7, hE⟩
      rw [List.getElem?_map] at hy
      obtain ⟨n, en, rfl⟩ := Option.map_eq_some_iff.mp hy
      have fl := List.length_filter_le (fun n => !decide (n ∈ ms)) ((namesL ls2).take i)
      rw [List.length_take] at fl
      refine ⟨rfl, _, rfl, _, rfl, a2, _, rfl, .inr (SqT.of ((S6.trans s7) _ _ e2)), rfl, flat_nmsX _, _, rfl, ?_⟩
      rw [if_pos rfl, inV_nmsX]
      by_cases z : n ∈ ms
      · rw [decide_eq_true z]
        refine iteF ?_
        refine ⟨s7, ?_⟩
        rw [filter_snocB en, if_neg (by rw [decide_eq_true z]; decide), List.append_nil]
        exact hE
      · rw [decide_eq_false z]
        refine iteT ?_
        refine ⟨_, rfl, _, hE, by rw [List.length_map, sizeLine_eq]; omega, same_mut s7 nE, ?_⟩
        rw [upd_same, filter_snocB en, if_pos (by rw [decide_eq_false z]; rfl), List.map_append]
        rfl
    rintro H7 ⟨s7, hE⟩
    rw [List.length_map, List.take_length] at hE
    have S7 := S6.trans s7
    refine ⟨l2, .ref E, xs2, ls2, _, rfl, S7 _ _ hl2, tl2.st (StT.same S7), ⟨E, rfl, .inl (SqL.of hE)⟩, by omega, fun b2 H8 s8 hb2 => ?_⟩
    refine ⟨b2, rfl, k _ _ (S7.trans s8) ?_⟩
    rw [AP]
    have hr : joinsB _ (netB ls2) ↔ b2 = true := (joins_rest lk2).trans hb2.symm
    cases b2
    · exact ⟨fun _ => ⟨dj, hj, fun z => by have := hr.mp z; cases this⟩, fun _ => rfl⟩
    · exact ⟨fun z => (by cases z), fun z => (z.2.2 (hr.mpr rfl)).elim⟩
end
end RR
set_option maxHeartbeats 4000000
namespace RR
open PySem PySem.Spec PyProof.Rows L2
local macro_rules | `(tactic| walk_at "hp") => `(tactic| first | assumption | exact upd_same | (refine hp_new ?_ (by assumption); walk_at "hp") | (refine hp_mut ?_ (by first | assumption | (apply Ne.symm; assumption)); walk_at "hp") | (refine Same.at (by assumption) ?_; walk_at "hp"))
local macro_rules | `(tactic| walk_at "same") => `(tactic| first | exact fun _ _ z => z | assumption | (refine same_new ?_ (by assumption); walk_at "same") | (refine L2.Same.trans ?_ (by assumption); walk_at "same"))
local macro_rules | `(tactic| walk_at "sq") => `(tactic| exact SqL.of (by walk_at "hp"))
local macro_rules | `(tactic| walk_at "sqT") => `(tactic| exact SqT.of (by walk_at "hp"))

open LamX
section
variable {P : Program} {w : World} {K : PySem.W.Frag} {mg : Str → Option Value} {base : Heap}
theorem ok_are_names (T : TX K mg) : FnOk P w K mg base CX0 2 T.f_are_names T.d_are_names ["thing"] (spAreN) := by
  refine T.F_are_names.ok sc_are_names (fun vs H Q E h => ?_) (fun cdv A out s H vs Q E hr h => ?_)
  · obtain ⟨v, d, rfl, hr0, ky, kn⟩ := h
    rfl
  · obtain ⟨v, d, rfl, hr0, ky, kn⟩ := h
    refine ⟨_, (pss_cons (ps_if (PW.pt (pw_or (pt_not (pt_val (pe_callB call_isi (by rfl) T.b_isinstance (by decide +kernel) (pa_cons (pv 0) (pa_cons (pe_bltn (v := .ty "tuple") (by rfl) T.b_tuple (by decide +kernel) rfl) pa_nil))))) (pw_or1 (pt_not (pt_val (pe_callB (cr_all rfl) (by rfl) T.b_all (by decide +kernel) (pa_cons (pe_lc (own := [("name", 1)]) (g := (gName 1)) (tt := tYes) (by rfl) sc_are_names.nd (show PI _ _ _ (iTup K (tVar 0)) from pi_tup (pv 0)) (blkOk_by (own := [("name", 1)]) (N := N_are_names) (sc := defScope s_are_names) (by decide +kernel)) (fun _ _ _ _ _ => (pg_name (i := 1) sc_are_names.nd rfl (Or.inl rfl))) (fun _ _ _ _ _ => pts_nil) (fun _ _ _ _ _ => (pe_callR (r_is_name T) (hr.mono (by decide)) (by rfl) T.m_is_name T.F_is_name.kp pass0 (pa_cons (pv 1) pa_nil)))) pa_nil))))))) (pss_one (ps_ret pe_bl)) pss_nil)
 (pss_one (ps_ret (pe_cmpR (show OpR _ _ (rEqD K) from op_eqD hr.units) (pe_callTy call_list_of (by rfl) T.b_list (by decide +kernel) (pa_cons (pv 0) pa_nil)) (pe_callB (r := rSortKT P w) (cr_sortKT rfl (hu2_of hr)) (by rfl) T.b_sorted (by decide +kernel) (pa_cons (pe_callTy (r := rSetV K P w) (cr_setV rfl) (by rfl) T.b_set (by decide +kernel) (pa_cons (pv 0) pa_nil)) pa_nil)) (nomark _))))), ?_⟩
    cases hr0 with
    | lst e p l =>
      refine ⟨_, rfl, _, _, _, _, false, rfl, .ty "tuple", .base (.lst e), kit_ty (by decide +kernel), _, rfl, ?_⟩
      refine iteT ?_
      refine iteT ?_
      exact kn H (Same.refl H) (fun ns g => by obtain ⟨b, e1, e2, _⟩ := g; obtain rfl := V.ref.inj e1; rw [e] at e2; cases e2)
    | txt e l =>
      refine ⟨_, rfl, _, _, _, _, false, rfl, .ty "tuple", .base (.str _), kit_ty (by decide +kernel), _, rfl, ?_⟩
      refine iteT ?_
      refine iteT ?_
      exact kn H (Same.refl H) (fun ns g => by obtain ⟨b, e1, e2, _⟩ := g; cases e1)
    | non  =>
      refine ⟨_, rfl, _, _, _, _, false, rfl, .ty "tuple", .base .non, kit_ty (by decide +kernel), _, rfl, ?_⟩
      refine iteT ?_
      refine iteT ?_
      exact kn H (Same.refl H) (fun ns g => by obtain ⟨b, e1, e2, _⟩ := g; cases e1)
    | sev  =>
      refine ⟨_, rfl, _, _, _, _, false, rfl, .ty "tuple", .base (.int 7), kit_ty (by decide +kernel), _, rfl, ?_⟩
      refine iteT ?_
      refine iteT ?_
      exact kn H (Same.refl H) (fun ns g => by obtain ⟨b, e1, e2, _⟩ := g; cases e1)
    | dic e =>
      refine ⟨_, rfl, _, _, _, _, false, rfl, .ty "tuple", .base (.dK e), kit_ty (by decide +kernel), _, rfl, ?_⟩
      refine iteT ?_
      refine iteT ?_
      exact kn H (Same.refl H) (fun ns g => by obtain ⟨b, e1, e2, _⟩ := g; obtain rfl := V.ref.inj e1; rw [e] at e2; cases e2)
    | @tup a xs ds e p l =>
      have dsl := Paired.length p
      refine ⟨_, rfl, _, _, _, _, true, rfl, .ty "tuple", .base (.tup e), kit_ty (by decide +kernel), _, rfl, ?_⟩
      refine iteF ?_
      refine ⟨_, rfl, a, rfl, ⟨_, SqT.of e⟩, fun D nD => ?_⟩
      refine lc_tup (xs := xs) (fun i H' => Same H H' ∧ H' D = some (.lst (((xs.take i).map yesV).map V.bl))) ⟨Same.new nD, by rw [List.take_zero]; exact upd_same⟩ (fun i H' _ z => SqT.of (z.1 _ _ e)) ?_ ?_
      · rintro i y H1 hy ⟨s1, hD⟩
        obtain ⟨d, ed, hi⟩ := pair_at p hy
        refine ⟨rfl, _, rfl, y, yesV y, rfl, (hi.st (StT.same s1)).isn, ?_⟩
        refine ⟨_, hD, by rw [List.length_map, List.length_map, List.length_take, sizeLine_eq]; omega, same_mut s1 nD, ?_⟩
        rw [upd_same, List.take_add_one, hy, Option.toList_some, List.map_append, List.map_append]
        rfl
      rintro H1 ⟨s1, hD⟩
      rw [List.take_length] at hD
      refine ⟨D, _, rfl, SqL.of hD, _, rfl, ?_⟩
      by_cases al : xs.all yesV = true
      · have al2 : (xs.map yesV).all id = true := by rw [List.all_map]; exact al
        rw [al2]
        refine iteF ?_
        obtain ⟨ns, rfl, hns⟩ := all_names al
        have e1 := s1 _ _ e
        refine ⟨_, rfl, a, _, rfl, .inr (SqT.of e1), fun L nL => ?_⟩
        have sL := Same.new nL (o := .lst (ns.map V.str))
        have hL := upd_same (H := H1) (a := L) (o := .lst (ns.map V.str))
        generalize upd H1 L (.lst (ns.map V.str)) = H2 at sL hL ⊢
        have ev : ns.map V.str = (ns.map (Sum.inr : Str → Key)).map kV := by rw [List.map_map]; rfl
        refine ⟨_, rfl, a, ns.map Sum.inr, rfl, .inr (by rw [← ev]; exact SqT.of (sL _ _ e1)), by rw [List.length_map] at l ⊢; omega, fun x ks nx m => ?_⟩
        refine ⟨x, ks, ns, rfl, upd_same, m, by rw [List.length_map] at l; omega, fun q nq => ?_⟩
        have s3 := (Same.new nx (o := KeysO P w x ks)).trans (Same.new nq (o := .lst ((onceS ns).map V.str)))
        refine ⟨.list (ns.map PyData.str), .list ((onceS ns).map PyData.str), .lst (SqL.of (s3 _ _ hL)) (dp_strsT _), .lst (SqL.of upd_same) (dp_strsT _), strs_shaped7 hns, strs_shaped7 fun n hn => hns n (onceS_mem.mp hn), ?_⟩
        rw [eqv_strs]
        have S := (s1.trans sL).trans s3
        by_cases eo : ns = onceS ns
        · rw [decide_eq_true eo]
          exact ky ns _ S ⟨a, rfl, e, hns, eo.symm⟩
        · rw [decide_eq_false eo]
          refine kn _ S fun ms gm => ?_
          obtain ⟨b, e1, e2, e3, e4⟩ := gm
          obtain rfl := V.ref.inj e1
          rw [e] at e2
          injection e2 with e2
          injection e2 with e2
          obtain rfl := strs_inj e2
          exact eo e4.symm
      · have al2 : (xs.map yesV).all id = false := by rw [List.all_map]; exact Bool.eq_false_iff.mpr al
        rw [al2]
        refine iteT ?_
        exact kn _ s1 (not_gd_all e al)
theorem r_are_names (T : TX K mg) : FnR P w K mg base CX0 2 T.f_are_names (spAreN) := rawAll (ok_are_names T) (bd_are_names T.F_are_names)
end
end RR
set_option maxHeartbeats 4000000
namespace RR
open PySem PySem.Spec PyProof.Rows L2
local macro_rules | `(tactic| walk_at "hp") => `(tactic| first | assumption | exact upd_same | (refine hp_new ?_ (by assumption); walk_at "hp") | (refine hp_mut ?_ (by first | assumption | (apply Ne.symm; assumption)); walk_at "hp") | (refine Same.at (by assumption) ?_; walk_at "hp"))
local macro_rules | `(tactic| walk_at "same") => `(tactic| first | exact fun _ _ z => z | assumption | (refine same_new ?_ (by assumption); walk_at "same") | (refine L2.Same.trans ?_ (by assumption); walk_at "same"))
local macro_rules | `(tactic| walk_at "sq") => `(tactic| exact SqL.of (by walk_at "hp"))
local macro_rules | `(tactic| walk_at "sqT") => `(tactic| exact SqT.of (by walk_at "hp"))

open LamX
section
variable {P : Program} {w : World} {K : PySem.W.Frag} {mg : Str → Option Value} {base : Heap}
theorem ok_reached (T : TX K mg) : FnOk P w K mg base CX0 2 T.f_reached T.d_reached ["links", "start"] (spReachB) := by
  refine T.F_reached.ok sc_reached (fun vs H Q E h => ?_) (fun cdv A out s H vs Q E hr h => ?_)
  · obtain ⟨l, xs, ls, a, rfl, hl, tl, few, k⟩ := h
    rfl
  · obtain ⟨l, xs, ls, a, rfl, hl, tl, few, k⟩ := h
    refine ⟨_, (pss_cons (ps_set (i := 2) sc_reached.nd rfl (Or.inl rfl) (pe_disp (pps_cons (pv 1) pe_bl pps_nil) (by rfl) (by rfl) (by decide) (by decide)))
 (pss_cons (ps_set (i := 3) sc_reached.nd rfl (Or.inl rfl) pe_int)
 (pss_cons (ps_while PassesOwn.never (pt_cmpR op_lt (pv 3) (pe_callB call_lenD (by rfl) T.b_len PySem.boot_len (pa_cons (pv 2) pa_nil)) (nomark _)) (pss_cons (ps_set (i := 3) sc_reached.nd rfl (Or.inl rfl) (pe_callB call_lenD (by rfl) T.b_len PySem.boot_len (pa_cons (pv 2) pa_nil)))
 (pss_one (ps_for PassesOwn.never rfl (pi_list (pv 0)) (pg_tup (by rfl) (pgs_cons (pg_name (i := 4) sc_reached.nd rfl (Or.inl rfl)) (pgs_cons (pg_name (i := 5) sc_reached.nd rfl (Or.inl rfl)) (pgs_cons (pg_name (i := 6) sc_reached.nd rfl (Or.inl rfl)) pgs_nil))))
 (pss_one (ps_if (PW.pt (pw_or (pt_cmp (pc_din (hu_of hr) (pv 5) (pv 2)) rfl) (pw_or1 (pt_cmp (pc_din (hu_of hr) (pv 6) (pv 2)) rfl)))) (pss_cons (ps_dput (hu_of hr) (pv 2) (pv 5) pe_bl rfl)
 (pss_one (ps_dput (hu_of hr) (pv 2) (pv 6) pe_bl rfl))) pss_nil))))))
 (pss_one (ps_ret (pv 2)))))), ?_⟩
    have tln := tl.len
    refine fun D nD => ⟨_, rfl, upd_same, [(.inl a, .bl true)], rfl, by show 1 ≤ 15; decide, ?_⟩
    have S0 : Same H (upd (upd H D (.dK [])) D (.dK (mergeK [] [(.inl a, .bl true)]))) := same_mut (Same.new nD) nD
    have hD := upd_same (H := upd H D (.dK [])) (a := D) (o := .dK (mergeK [] [(.inl a, .bl true)]))
    generalize upd (upd H D (.dK [])) D (.dK (mergeK [] [(.inl a, .bl true)])) = H0 at S0 hD ⊢
    have F0 : Fnd ls a (mergeK [] [(.inl a, .bl true)]) := fnd_start
    generalize mergeK [] [(Sum.inl a, V.bl true)] = kv at hD F0
    refine gname_nx ?_
    dsimp only
    refine seq_of ?_
    show gName 3 (V.int 0) _ _ _
    refine gname_nx ?_
    dsimp only
    refine seq_of ?_
    refine while_by (fun σ H' => ∃ b_ bu bv m kvs, σ = [some (.ref l), some (.int a), some (.ref D), some (.int ((m : Nat) : Int)), b_, bu, bv] ∧ Same H H' ∧ H' D = some (.dK kvs) ∧ Fnd ls a kvs ∧ m ≤ kvs.length ∧ (m = kvs.length → Clsd ls kvs))
      (fun σ H' => match σ with | [_, _, _, some (.int m), _, _, _] => (200 - m).toNat | _ => 0) ⟨_, _, _, 0, kv, rfl, S0, hD, F0, Nat.zero_le _, fun z => by
        have : (valV kv (.inl a)).isSome = true := F0.st
        rw [List.length_eq_zero_iff.mp z.symm] at this
        cases this⟩ ?_ (fun σ H1 Q1 Q2 hq z => by
        obtain ⟨v, e1, w, e2, a2, kv, e3, e4, i, j, e5, e6, b, e7, q⟩ := z
        exact ⟨v, e1, w, e2, a2, kv, e3, e4, i, j, e5, e6, b, e7, hq _ _ q⟩)
    rintro σ H1 ⟨b_, bu, bv, m, kvs, rfl, s1, hD, F, ml, cl⟩
    have fl := F.len
    refine ⟨_, rfl, _, rfl, _, _, rfl, hD, _, _, rfl, rfl, _, rfl, ?_⟩
    by_cases z : m < kvs.length
    · rw [decide_eq_true (show (m : Int) < ((kvs.length : Nat) : Int) by omega)]
      refine iteT ?_
      refine ⟨_, rfl, _, _, rfl, hD, ?_⟩
      refine ⟨_, rfl, l, rfl, ⟨_, SqL.of (s1 _ _ hl)⟩, ?_⟩
      refine for_list (xs := xs) (fun i σ H' => ∃ b_ bu bv kv2, σ = [some (.ref l), some (.int a), some (.ref D), some (.int ((kvs.length : Nat) : Int)), b_, bu, bv] ∧ Same H H' ∧ H' D = some (.dK kv2) ∧ Pss ls a kvs i kv2) ⟨_, _, _, kvs, rfl, s1, hD, F, Nat.le_refl _, fun _ l hl => by rw [List.take_zero] at hl; cases hl⟩ (fun i σ H' _ z => by obtain ⟨_, _, _, _, _, s, _⟩ := z; exact SqL.of (s _ _ hl)) ?_ ?_
      · rintro i y σ H4 hy ⟨b_, bu, bv, kvs, rfl, s4, h4, P⟩
        obtain ⟨k0, ek, w, rfl, hk⟩ := pair_at tl hy
        have hk := s4 _ _ hk
        have g1 := DGet.k (k := Sum.inl k0.2.1) h4
        have g2 := DGet.k (k := Sum.inl k0.2.2) h4
        refine ⟨w, _, rfl, SqT.of hk, rfl, _, _, rfl, _, _, rfl, _, _, rfl, rfl, ?_⟩
        refine ⟨_, rfl, _, rfl, D, _, rfl, g1, _, rfl, ?_⟩
        by_cases z1 : (valV kvs (.inl k0.2.1)).isSome = true
        · rw [z1]
          refine iteT ?_
          refine iteT ?_
          refine ⟨_, rfl, _, rfl, D, _, rfl, DPut.k (k := Sum.inl k0.2.1) h4 (by rw [sizeLine_eq]; have := P.fnd.len; omega), ?_⟩
          refine ⟨_, rfl, _, rfl, D, _, rfl, DPut.k (k := Sum.inl k0.2.2) upd_same (by rw [sizeLine_eq]; have := P.fnd.len; have := length_putK kvs (Sum.inl k0.2.1) (.bl true); omega), ?_⟩
          exact ⟨_, _, _, _, rfl, same_mut (same_mut s4 nD) nD, upd_same, pss_put P ek (.inl z1)⟩
        · rw [(Bool.not_eq_true _).mp z1]
          refine iteF ?_
          refine ⟨_, rfl, _, rfl, D, _, rfl, g2, _, rfl, ?_⟩
          by_cases z2 : (valV kvs (.inl k0.2.2)).isSome = true
          · rw [z2]
            refine iteT ?_
            refine ⟨_, rfl, _, rfl, D, _, rfl, DPut.k (k := Sum.inl k0.2.1) h4 (by rw [sizeLine_eq]; have := P.fnd.len; omega), ?_⟩
            refine ⟨_, rfl, _, rfl, D, _, rfl, DPut.k (k := Sum.inl k0.2.2) upd_same (by rw [sizeLine_eq]; have := P.fnd.len; have := length_putK kvs (Sum.inl k0.2.1) (.bl true); omega), ?_⟩
            exact ⟨_, _, _, _, rfl, same_mut (same_mut s4 nD) nD, upd_same, pss_put P ek (.inr z2)⟩
          · rw [(Bool.not_eq_true _).mp z2]
            refine iteF ?_
            exact ⟨_, _, _, _, rfl, s4, h4, pss_skip P ek z1 z2⟩
      rintro σ H4 ⟨b_, bu, bv, kv2, rfl, s4, h4, P⟩
      rw [tln] at P
      refine ⟨⟨_, _, _, kvs.length, kv2, rfl, s4, h4, P.fnd, P.grow, fun e l hl => P.same e.symm l (by rw [List.take_length]; exact hl)⟩, ?_⟩
      show (200 - ((kvs.length : Nat) : Int)).toNat < (200 - ((m : Nat) : Int)).toNat
      omega
    · rw [decide_eq_false (show ¬ (m : Int) < ((kvs.length : Nat) : Int) by omega)]
      refine iteF ?_
      exact ⟨_, rfl, k D kvs H1 s1 hD (F.all (cl (by omega)))⟩
theorem r_reached (T : TX K mg) : FnR P w K mg base CX0 2 T.f_reached (spReachB) := rawAll (ok_reached T) (bd_reached T.F_reached)
theorem ok_joins (T : TX K mg) : FnOk P w K mg base CX0 3 T.f_joins T.d_joins ["web", "names"] (spJoinB K T.C_Web T.a_OPEN T.a_SHUT) := by
  refine T.F_joins.ok sc_joins (fun vs H Q E h => ?_) (fun cdv A out s H vs Q E hr h => ?_)
  · obtain ⟨x, s0, v, ns, rfl, W, hv, k⟩ := h
    rfl
  · obtain ⟨x, s0, v, ns, rfl, W, hv, k⟩ := h
    refine ⟨_, (pss_cons (ps_if (pt_cmpR op_eq (pe_prop (pv 0) T.vc T.pr_kind (ok_Web_kind T) (hr.mono (by decide)) (bd_Web_kind T.F_Web_kind) .nil pass0 rfl) pe_str (nomark _)) (pss_one (ps_ret pe_bl)) pss_nil)
 (pss_one (ps_ret (pe_cmp (pc_din (hu_of hr) pe_int (pe_callR (r_reached T) (hr.mono (by decide)) (by rfl) T.m_reached T.F_reached.kp pass0 (pa_cons (pe_lc (own := [("link", 2)]) (g := (gName 2)) (by rfl) sc_joins.nd (pi_tup (pe_prop (pv 0) T.vc T.pr_links (ok_Web_links T) (hr.mono (by decide)) (bd_Web_links T.F_Web_links) .nil pass0 rfl)) (blkOk_by (own := [("link", 2)]) (N := N_joins) (sc := defScope s_joins) (by decide +kernel)) (fun _ _ _ _ _ => (pg_name (i := 2) sc_joins.nd rfl (Or.inl rfl))) (fun _ _ _ _ _ => (pts_one (pt_cmpR (show OpR _ (compareOp .In) (rIn K false) from op_in_seq) (pe_ix (r := rIxT K) ix_tup (pv 2) pe_int (fun _ _ => rfl)) (pv 1) (by rfl)))) (fun _ _ _ _ _ => (pv 2))) (pa_cons pe_int pa_nil)))) rfl)))), ?_⟩
    obtain ⟨dx, v, q, eh, sv, lt⟩ := id W.at_
    have ls_ := W.links
    refine ⟨_, rfl, x, dx, _, rfl, eh, x, s0, rfl, W, ?_⟩
    refine ⟨rfl, _, rfl, ?_⟩
    by_cases zo : s0 = .opn
    · subst zo
      rw [decide_eq_true (show V.str (kindB .opn) = V.str (Str.ofString "open") from rfl)]
      refine iteT ?_
      exact k true H (Same.refl _) ⟨fun _ => .inl rfl, fun _ => rfl⟩
    · rw [decide_eq_false (kind_open zo)]
      refine iteF ?_
      refine ⟨_, rfl, x, dx, _, rfl, eh, x, s0, rfl, W, fun q lt => ?_⟩
      obtain ⟨zs, hq, tl⟩ := lt
      have tln := tl.len
      refine ⟨q, rfl, ⟨_, SqT.of hq⟩, fun D nD => ?_⟩
      refine lc_tup (xs := zs) (fun i H' => Same H H' ∧ ∃ acc, H' D = some (.lst acc) ∧ TLs H' acc (((linksB s0).take i).filter fun l => decide (l.1 ∈ ns))) ⟨Same.new nD, [], upd_same, by rw [List.take_zero]; exact .nil⟩ (fun i H' _ z => SqT.of (z.1 _ _ hq)) ?_ ?_
      · rintro i y H5 hy ⟨s5, acc, hD5, ta⟩
        obtain ⟨k0, el, w, rfl, hw⟩ := pair_at tl hy
        have hw0 := s5 _ _ hw
        have fl : ((linksB s0).take (i + 1)).filter (fun l => decide (l.1 ∈ ns)) = ((linksB s0).take i).filter (fun l => decide (l.1 ∈ ns)) ++ if k0.1 ∈ ns then [k0] else [] := by
          rw [List.take_add_one, el, Option.toList_some, List.filter_append]
          by_cases e : k0.1 ∈ ns
          · simp [e]
          · simp [e]
        have al := ta.len
        have fl2 := List.length_filter_le (fun l : Lk => decide (l.1 ∈ ns)) ((linksB s0).take i)
        rw [List.length_take] at fl2
        obtain ⟨lv, ev, hv0⟩ := hv
        subst ev
        refine ⟨rfl, _, rfl, _, _, _, _, rfl, rfl, SqT.of hw0, rfl, _, rfl, lv, _, rfl, hv0.imp (sqL_st s5) (sqT_st s5), rfl, flat_nmsX _, _, rfl, ?_⟩
        rw [if_neg Bool.false_ne_true, inV_nmsX]
        by_cases e : k0.1 ∈ ns
        · rw [decide_eq_true e]
          refine iteT ?_
          refine ⟨_, rfl, acc, hD5, by rw [sizeLine_eq]; omega, same_mut s5 nD, _, upd_same, ?_⟩
          rw [fl, if_pos e]
          exact (ta.st ((StT.refl _).mut hD5 (fun _ z => by cases z))).snoc ⟨w, rfl, hp_mut hw0 (ne_of hw0 hD5 (fun z => by cases z))⟩
        · rw [decide_eq_false e]
          refine iteF ?_
          exact ⟨s5, acc, hD5, by rw [fl, if_neg e, List.append_nil]; exact ta⟩
      rintro H1 ⟨s1, acc, hD, ta⟩
      rw [tln, List.take_length] at ta
      have fl2 := List.length_filter_le (fun l : Lk => decide (l.1 ∈ ns)) (linksB s0)
      refine ⟨_, acc, _, 0, rfl, hD, ta, by omega, fun D2 kvs H2 s2 h2 al => ?_⟩
      refine ⟨D2, _, rfl, DGet.k (k := Sum.inl 1) h2, k _ H2 (s1.trans s2) ?_⟩
      have a1 := al 1
      unfold KeyI at a1
      rw [a1, allE_edgL]
      exact ⟨.inr, fun h => h.resolve_left zo⟩
theorem r_joins (T : TX K mg) : FnR P w K mg base CX0 3 T.f_joins (spJoinB K T.C_Web T.a_OPEN T.a_SHUT) := rawAll (ok_joins T) (bd_joins T.F_joins)
end
end RR
set_option maxHeartbeats 4000000
namespace RR
open PySem PySem.Spec PyProof.Rows L2
local macro_rules | `(tactic| walk_at "hp") => `(tactic| first | assumption | exact upd_same | (refine hp_new ?_ (by assumption); walk_at "hp") | (refine hp_mut ?_ (by first | assumption | (apply Ne.symm; assumption)); walk_at "hp") | (refine Same.at (by assumption) ?_; walk_at "hp"))
local macro_rules | `(tactic| walk_at "same") => `(tactic| first | exact fun _ _ z => z | assumption | (refine same_new ?_ (by assumption); walk_at "same") | (refine L2.Same.trans ?_ (by assumption); walk_at "same"))
local macro_rules | `(tactic| walk_at "sq") => `(tactic| exact SqL.of (by walk_at "hp"))
local macro_rules | `(tactic| walk_at "sqT") => `(tactic| exact SqT.of (by walk_at "hp"))

open LamX
section
variable {P : Program} {w : World} {K : PySem.W.Frag} {mg : Str → Option Value} {base : Heap}
theorem ok_shows_apart (T : TX K mg) : FnOk P w K mg base CX0 12 T.f_shows_apart T.d_shows_apart ["one", "other", "way", "cut"] (spShowsA T.C_Web T.a_OPEN T.a_SHUT) := by
  refine T.F_shows_apart.ok sc_shows_apart (fun vs H Q E h => ?_) (fun cdv A out s H vs Q E hr h => ?_)
  · obtain ⟨x, y, s0, t0, v1, v2, d1, d2, rfl, W, W2, R1, R2, k⟩ := h
    rfl
  · obtain ⟨x, y, s0, t0, v1, v2, d1, d2, rfl, W, W2, R1, R2, k⟩ := h
    refine ⟨_, (pss_cons (ps_if (PW.pt (pw_or (pt_not (pt_val (pe_callR (r_are_names T) (hr.mono (by decide)) (by rfl) T.m_are_names T.F_are_names.kp pass0 (pa_cons (pv 2) pa_nil)))) (pw_or (pt_not (pt_val (pe_callR (r_are_names T) (hr.mono (by decide)) (by rfl) T.m_are_names T.F_are_names.kp pass0 (pa_cons (pv 3) pa_nil)))) (pw_or1 (pt_val (pe_callB (call_anyB rfl) (by rfl) T.b_any (by decide +kernel) (pa_cons (pe_lc (own := [("name", 4)]) (g := (gName 4)) (tt := tYes) (by rfl) sc_shows_apart.nd (show PI _ _ _ (iTup K (tVar 2)) from pi_tup (pv 2)) (blkOk_by (own := [("name", 4)]) (N := N_shows_apart) (sc := defScope s_shows_apart) (by decide +kernel)) (fun _ _ _ _ _ => (pg_name (i := 4) sc_shows_apart.nd rfl (Or.inl rfl))) (fun _ _ _ _ _ => pts_nil) (fun _ _ _ _ _ => (pe_cmpR (show OpR _ (compareOp .In) (rIn K false) from op_in_seq) (pv 4) (pv 3) (by rfl)))) pa_nil))))))) (pss_one (ps_ret pe_bl)) pss_nil)
 (pss_one (ps_ret (pe_and (pe_callR (r_joins T) (hr.mono (by decide)) (by rfl) T.m_joins T.F_joins.kp pass0 (pa_cons (pv 0) (pa_cons (pv 2) pa_nil))) (pe_one (pe_not (pe_callR (r_joins T) (hr.mono (by decide)) (by rfl) T.m_joins T.F_joins.kp pass0 (pa_cons (pv 1) (pa_cons (pe_lc (own := [("name", 4)]) (g := (gName 4)) (by rfl) sc_shows_apart.nd (pi_tup (pe_prop (pv 1) T.vc T.pr_names (ok_Web_names T) (hr.mono (by decide)) (bd_Web_names T.F_Web_names) .nil pass0 rfl)) (blkOk_by (own := [("name", 4)]) (N := N_shows_apart) (sc := defScope s_shows_apart) (by decide +kernel)) (fun _ _ _ _ _ => (pg_name (i := 4) sc_shows_apart.nd rfl (Or.inl rfl))) (fun _ _ _ _ _ => (pts_one (pt_cmpR (show OpR _ (compareOp .NotIn) (rIn K true) from op_notIn_seq) (pv 4) (pv 3) (by rfl)))) (fun _ _ _ _ _ => (pv 4))) pa_nil))))))))), ?_⟩
    refine ⟨_, rfl, v1, d1, rfl, R1, fun ns H1 s1 g1 => ?_, fun H1 s1 no => ?_⟩
    rotate_left
    · refine ⟨_, rfl, ?_⟩
      refine iteT ?_
      refine iteT ?_
      exact k false _ s1 ⟨fun z => (by cases z), fun z => (apart_no1 no z).elim⟩
    refine ⟨_, rfl, ?_⟩
    refine iteF ?_
    refine ⟨_, rfl, v2, d2, rfl, R2.st s1, fun ms H2 s2 g2 => ?_, fun H2 s2 no => ?_⟩
    rotate_left
    · refine ⟨_, rfl, ?_⟩
      refine iteT ?_
      refine iteT ?_
      exact k false _ (s1.trans s2) ⟨fun z => (by cases z), fun z => (apart_no2 (fun ns g => no ns (g.same s1)) z).elim⟩
    refine ⟨_, rfl, ?_⟩
    refine iteF ?_
    have S2 := s1.trans s2
    have G2 := g2.back R2 s1
    obtain ⟨a1, rfl, e1, n1, o1⟩ := id g1
    obtain ⟨a2, rfl, e2, n2, o2⟩ := id G2
    have l1 := g1.len
    have l2 := g2.len
    have h1 := S2 _ _ e1
    have h2 := S2 _ _ e2
    have AP := apart_iff (s := s0) (t := t0) g1 G2
    refine ⟨_, rfl, a1, rfl, ⟨_, SqT.of h1⟩, fun D nD => ?_⟩
    refine lc_tup (xs := ns.map V.str) (fun i H' => Same H2 H' ∧ H' D = some (.lst (((ns.take i).map fun n => decide (n ∈ ms)).map V.bl))) ⟨Same.new nD, by rw [List.take_zero]; exact upd_same⟩ (fun i H' _ z => SqT.of (z.1 _ _ h1)) ?_ ?_
    · rintro i y H3 hy ⟨s3, hD⟩
      rw [List.getElem?_map] at hy
      obtain ⟨n, en, rfl⟩ := Option.map_eq_some_iff.mp hy
      refine ⟨rfl, _, rfl, _, rfl, a2, _, rfl, .inr (SqT.of (s3 _ _ h2)), rfl, flat_nmsX _, ?_⟩
      rw [if_neg Bool.false_ne_true, inV_nmsX]
      refine ⟨_, hD, by rw [List.length_map, List.length_map, List.length_take, sizeLine_eq]; omega, same_mut s3 nD, ?_⟩
      rw [upd_same, List.take_add_one, en, Option.toList_some, List.map_append, List.map_append]
      rfl
    rintro H3 ⟨s3, hD⟩
    rw [List.length_map, List.take_length] at hD
    have S3 := S2.trans s3
    refine ⟨D, _, rfl, hD, ?_⟩
    by_cases an : ((ns.map fun n => decide (n ∈ ms)).any id) = true
    · rw [an]
      refine ⟨_, rfl, ?_⟩
      refine iteT ?_
      refine k false _ S3 ⟨fun z => (by cases z), fun z => ?_⟩
      have z := (AP.mp z).1
      rw [List.any_map, List.any_eq_true] at an
      obtain ⟨n, hn, e⟩ := an
      exact (z n hn (of_decide_eq_true e)).elim
    have dj : ∀ n ∈ ns, n ∉ ms := fun n hn e => an (by rw [List.any_map, List.any_eq_true]; exact ⟨n, hn, decide_eq_true e⟩)
    rw [Bool.eq_false_iff.mpr an]
    refine ⟨_, rfl, ?_⟩
    refine iteF ?_
    refine ⟨_, rfl, _, rfl, x, s0, .ref a1, ns, rfl, W.same S3, ⟨a1, rfl, .inr (SqT.of (s3 _ _ h1))⟩, fun b1 H4 s4 hb1 => ?_⟩
    have S4 := S3.trans s4
    refine ⟨b1, rfl, ?_⟩
    cases b1
    · refine iteF ?_
      exact k false _ S4 ⟨fun z => (by cases z), fun z => hb1.mpr (AP.mp z).2.1⟩
    refine iteT ?_
    obtain ⟨dy, _, _, ey, _⟩ := id W2.at_
    have f2 : (onceS (nmS t0)).length ≤ 14 := by
      have a := onceS_len (nmS t0)
      rw [nms_len] at a
      have := W2.few
      omega
    refine ⟨_, rfl, _, rfl, y, dy, _, rfl, S4 _ _ ey, y, t0, rfl, W2.same S4, fun p H5 s5 hp => ?_⟩
    have S5 := S4.trans s5
    refine ⟨p, rfl, ⟨_, SqT.of hp⟩, fun E nE => ?_⟩
    refine lc_tup (xs := (onceS (nmS t0)).map V.str) (fun i H' => Same H5 H' ∧ H' E = some (.lst ((((onceS (nmS t0)).take i).filter fun n => !decide (n ∈ ms)).map V.str))) ⟨Same.new nE, by rw [List.take_zero]; exact upd_same⟩ (fun i H' _ z => SqT.of (z.1 _ _ hp)) ?_ ?_
    · rintro i w H6 hy ⟨s6, hE⟩
      rw [List.getElem?_map] at hy
      obtain ⟨n, en, rfl⟩ := Option.map_eq_some_iff.mp hy
      have fl := List.length_filter_le (fun n => !decide (n ∈ ms)) ((onceS (nmS t0)).take i)
      rw [List.length_take] at fl
      refine ⟨rfl, _, rfl, _, rfl, a2, _, rfl, .inr (SqT.of ((S5.trans s6) _ _ e2)), rfl, flat_nmsX _, _, rfl, ?_⟩
      rw [if_pos rfl, inV_nmsX]
      by_cases z : n ∈ ms
      · rw [decide_eq_true z]
        refine iteF ?_
        refine ⟨s6, ?_⟩
        rw [filter_snocB en, if_neg (by rw [decide_eq_true z]; decide), List.append_nil]
        exact hE
      · rw [decide_eq_false z]
        refine iteT ?_
        refine ⟨_, rfl, _, hE, by rw [List.length_map, sizeLine_eq]; omega, same_mut s6 nE, ?_⟩
        rw [upd_same, filter_snocB en, if_pos (by rw [decide_eq_false z]; rfl), List.map_append]
        rfl
    rintro H6 ⟨s6, hE⟩
    rw [List.length_map, List.take_length] at hE
    refine ⟨y, t0, .ref E, _, rfl, W2.same (S5.trans s6), ⟨E, rfl, .inl (SqL.of hE)⟩, fun b2 H7 s7 hb2 => ?_⟩
    refine ⟨b2, rfl, k _ _ ((S5.trans s6).trans s7) ?_⟩
    rw [AP]
    cases b2
    · exact ⟨fun _ => ⟨dj, hb1.mp rfl, fun z => by have := hb2.mpr z; cases this⟩, fun _ => rfl⟩
    · exact ⟨fun z => (by cases z), fun z => (z.2.2 (hb2.mp rfl)).elim⟩
theorem r_shows_apart (T : TX K mg) : FnR P w K mg base CX0 12 T.f_shows_apart (spShowsA T.C_Web T.a_OPEN T.a_SHUT) := rawAll (ok_shows_apart T) (bd_shows_apart T.F_shows_apart)
end
end RR
set_option maxHeartbeats 4000000
namespace RR
open PySem PySem.Spec PyProof.Rows L2
open LamX
/-! ### k52: what is given, shown -/
section
variable {X : Cx}
def rReprT (K : PySem.W.Frag) (n : Nat) : List V → Hp → VK → Prop := fun xs H Q => rReprQ K n xs H Q ∨ rReprS K n xs H Q
theorem call_reprT {n : Nat} (hn : n ≤ sizeLine) (hu : X.A.units + 64 < cLine) (fr : Free X.A) : CallR X (.builtin "repr") (rReprT X.K n) := by
  intro pins s σ H xs us Q I rv h
  rcases h with h | h
  · exact call_reprQ hn hu fr pins s σ H xs us Q I rv h
  · exact call_reprS hn hu fr pins s σ H xs us Q I rv h
end
def noL : PyData → Bool
  | .list _ => false
  | _ => true
theorem Rt.dp {K : PySem.W.Frag} {H : Hp} {v : V} {d : PyData} (h : Rt H v d) (n : d.hasDict = false) : Dp K H v d := by
  cases h with
  | tup e p l => exact .tup (SqT.of e) (itms_data p).1
  | lst e p l => exact .lst (SqL.of e) (itms_data p).1
  | txt a b => exact .str _
  | non => exact .non
  | sev => exact .int 7
  | dic e => exact absurd n (by decide)
theorem Rt.dq {K : PySem.W.Frag} {H : Hp} {v : V} {d : PyData} (h : Rt H v d) (n : noL d = true) : Dq K H v d := by
  cases h with
  | tup e p l => exact .tup (SqT.of e) (itms_data p).2.1
  | lst e p l => exact absurd n (show ¬ false = true from Bool.false_ne_true)
  | txt a b => exact .str _
  | non => exact .non
  | sev => exact .int 7
  | dic e => exact .dic e .nil
theorem Rt.sh {H : Hp} {v : V} {d : PyData} (h : Rt H v d) : ShowsQ 100000 3 d := by
  cases h with
  | tup e p l =>
    have sa := (itms_data (K := default) p).2.2.2.2.2
    have ln := Paired.length p
    exact showsQ_tup sa (by omega) (by decide)
  | lst e p l =>
    have sa := (itms_data (K := default) p).2.2.2.2.2
    have ln := Paired.length p
    exact showsQ_list sa (by omega) (by decide)
  | txt a b => exact shQ_str a (by omega)
  | non => exact ⟨rfl, Nat.zero_le _, by decide +kernel⟩
  | sev => exact shQ_int (sm_mono (m := 97) (by decide) (by decide)) (by decide)
  | dic e => exact ⟨rfl, by decide, by decide +kernel⟩
def Cmp (d1 d2 : PyData) : Prop := (d1.hasDict = false ∧ d2.hasDict = false) ∨ (noL d1 = true ∧ noL d2 = true)
theorem Rt.pair {K : PySem.W.Frag} {H : Hp} {v1 v2 : V} {d1 d2 : PyData} (h1 : Rt H v1 d1) (h2 : Rt H v2 d2) (c : Cmp d1 d2) {L : Addr} (hL : H L = some (.lst [v1, v2])) {Q : VK} (q : Q (.str (PyData.list [d1, d2]).shown) H) : rReprT K 250000 [.ref L] H Q := by
  have s2 : ShowsQ 250000 20 (.list [d1, d2]) := showsQ_list (n := 100000) (m := 3) (.cons h1.sh (.cons h2.sh .nil)) (by show 2 * 100000 + 2 * 2 + 3 ≤ _; decide) (by decide)
  rcases c with ⟨a, b⟩ | ⟨a, b⟩
  · refine .inr ⟨L, _, rfl, .lst (SqL.of hL) (.cons (h1.dp a) (.cons (h2.dp b) .nil)), ⟨s2.sh, ?_, s2.dp, s2.ln⟩, q⟩
    show (d1.hasDict || (d2.hasDict || false)) = false
    rw [a, b]
    rfl
  · exact .inl ⟨L, _, _, rfl, hL, .cons (h1.dq a) (.cons (h2.dq b) .nil), s2, q⟩
theorem cmp_gd {d : PyData} (ns : List Str) : (∀ {H : Hp} {v : V}, Rt H v d → Cmp d (.tuple (ns.map PyData.str)) ∧ Cmp (.tuple (ns.map PyData.str)) d) := fun {H v} h => by
  have a : (PyData.tuple (ns.map PyData.str)).hasDict = false := strs_nodict ns
  cases h with
  | tup e p l => exact ⟨.inr ⟨rfl, rfl⟩, .inr ⟨rfl, rfl⟩⟩
  | lst e p l =>
    have b := (itms_data (K := default) p).2.2.2.2.1
    exact ⟨.inl ⟨b, a⟩, .inl ⟨a, b⟩⟩
  | txt _ _ => exact ⟨.inr ⟨rfl, rfl⟩, .inr ⟨rfl, rfl⟩⟩
  | non => exact ⟨.inr ⟨rfl, rfl⟩, .inr ⟨rfl, rfl⟩⟩
  | sev => exact ⟨.inr ⟨rfl, rfl⟩, .inr ⟨rfl, rfl⟩⟩
  | dic e => exact ⟨.inr ⟨rfl, rfl⟩, .inr ⟨rfl, rfl⟩⟩
theorem apart_same {H H' : Hp} {v1 v2 : V} {d1 d2 : PyData} {s t : Sh} (r1 : Rt H v1 d1) (r2 : Rt H v2 d2) (S : Same H H') : Apart H' v1 v2 s t ↔ Apart H v1 v2 s t :=
  ⟨fun ⟨ns, ms, a, b, c⟩ => ⟨ns, ms, a.back r1 S, b.back r2 S, c⟩, fun ⟨ns, ms, a, b, c⟩ => ⟨ns, ms, a.same S, b.same S, c⟩⟩
theorem shows_bool2 (a b : Bool) : Shows 250000 20 (.list [.bool a, .bool b]) := shows_list (n := 5) (m := 0) (.cons (shows_bool a (by decide)) (.cons (shows_bool b (by decide)) .nil)) (by show 2 * 5 + 2 * 2 + 3 ≤ _; decide) (by decide)
def spRightY : Sp := fun vs H Q _ => ∃ u1 u2 o1 o2 v1 v2 d1 d2, vs = [u1, u2, v1, v2] ∧ LO H u1 o1 ∧ LO H u2 o2 ∧ Rt H v1 d1 ∧ Rt H v2 d2 ∧ Cmp d1 d2 ∧ ∀ H', Same H H' → Q (.bl true) H'
theorem LO.pen {H H' : Hp} {p c : Addr} {ns : List Int} {a g : Int} {u : V} {o : Option (List Lk)} (W : PenAt H p c ns a g) (k : Keep p H H') (h : LO H u o) (np : u ≠ .ref p) : LO H' u o := by
  rcases h with h | ⟨l, xs, ls, rfl, e2, e3, e4, e5⟩
  · exact .inl h
  · exact .inr ⟨l, xs, ls, rfl, e2, k _ _ e3 (fun z => np (by rw [z])), e4.st (StT.pen W k), e5⟩
/-- a row of names as a list holds it -/
def RowA (H : Hp) (v : V) : Prop := ∃ c, TpA H v c ∧ (∀ n ∈ c, n ∈ seven) ∧ c.length ≤ 10
theorem RowA.same {H H' : Hp} {v : V} (s : Same H H') (h : RowA H v) : RowA H' v := by
  obtain ⟨c, a, b⟩ := h
  exact ⟨c, a.same s, b⟩
theorem RowA.wd {H : Hp} {v : V} (h : RowA H v) : ∃ ws, Wd7 H v ws := by
  obtain ⟨c, ⟨r, rfl, hr⟩, b1, b2⟩ := h
  exact ⟨c, r, rfl, hr, b1, b2⟩
theorem rows_all {H : Hp} : ∀ {cs : List V} {L : List (List Str)}, Paired (TpA H) cs L → (∀ c ∈ L, c.length ≤ 10 ∧ ∀ n ∈ c, PP n) → ∀ v ∈ cs, RowA H v
  | _, _, .nil, _, v, hv => by cases hv
  | x :: cs, c :: L, .cons h t, ok, v, hv => by
    rcases List.mem_cons.mp hv with rfl | hv
    · exact ⟨c, h, fun n hn => ((ok c (.head _)).2 n hn).2, (ok c (.head _)).1⟩
    · exact rows_all t (fun d hd => ok d (.tail _ hd)) v hv
def nextL : List Str := [Str.ofString "a", Str.ofString "ab", Str.ofString "b", Str.ofString "c", Str.ofString "m", Str.ofString "n", Str.ofString "zz"]
theorem next7 : ∀ n ∈ nextL, n ∈ seven := by decide +kernel
def spGoodY : Sp := fun vs H Q _ => ∃ p c ns a g u1 u2 o1 o2, vs = [.ref p, u1, u2] ∧ PenAt H p c ns a g ∧ LO H u1 o1 ∧ LO H u2 o2 ∧ a ≤ 95000 ∧ u1 ≠ .ref p ∧ u2 ≠ .ref p ∧
  ∀ q r1 r2 w1 w2 a' g' H', H' p = some (pen c a' g') → Keep p H H' → q ≠ p → H' q = some (.lst [r1, r2]) → Wd7 H' r1 w1 → Wd7 H' r2 w2 → a ≤ a' → a' ≤ a + 10 → Q (.ref q) H'
end RR
namespace RR
open PySem PySem.Spec PyProof.Rows L2
open LamX
theorem asg_by2 {te : TE} {g : TG} {D : Ends} {σ : L2.St} {H : Hp} (R : V → Hp → Prop) (h1 : ∀ Q : VK, (∀ v H', R v H' → Q v H') → te σ H Q) (h2 : ∀ v H', R v H' → g v σ H' D.nx) : tAsg te g D σ H := h1 _ h2
theorem RowA.mut {H : Hp} {v : V} {D : Addr} {xs ys : List V} (hD : H D = some (.lst xs)) (h : RowA H v) : RowA (upd H D (.lst ys)) v := by
  obtain ⟨c, a, b⟩ := h
  exact ⟨c, a.mut hD, b⟩
end RR
namespace RR
open PySem PySem.Spec PyProof.Rows L2
open LamX
theorem ifs_by3 {c : TT} {t u : TS} {D : Ends} {σ : L2.St} {H : Hp} (R : L2.St → Prop) (h1 : ∀ D' : Ends, (∀ σ', R σ' → D'.nx σ' H) → tIfS c t u D' σ H) (h2 : ∀ σ', R σ' → D.nx σ' H) : tIfS c t u D σ H := h1 D h2
end RR
set_option maxHeartbeats 4000000
namespace RR
open PySem PySem.Spec PyProof.Rows L2
local macro_rules | `(tactic| walk_at "hp") => `(tactic| first | assumption | exact upd_same | (refine hp_new ?_ (by assumption); walk_at "hp") | (refine hp_mut ?_ (by first | assumption | (apply Ne.symm; assumption)); walk_at "hp") | (refine Same.at (by assumption) ?_; walk_at "hp"))
local macro_rules | `(tactic| walk_at "same") => `(tactic| first | exact fun _ _ z => z | assumption | (refine same_new ?_ (by assumption); walk_at "same") | (refine L2.Same.trans ?_ (by assumption); walk_at "same"))
local macro_rules | `(tactic| walk_at "sq") => `(tactic| exact SqL.of (by walk_at "hp"))
local macro_rules | `(tactic| walk_at "sqT") => `(tactic| exact SqT.of (by walk_at "hp"))

open LamX
section
variable {P : Program} {w : World} {K : PySem.W.Frag} {mg : Str → Option Value} {base : Heap}
theorem kb_shows_apart {K : PySem.W.Frag} {f : Addr} {fd : FuncData} (F : Fun K "shows_apart" "shows_apart" s_shows_apart f fd) : KBn K fd ["one", "other", "way", "cut"] 0 ["one", "other", "way", "cut"] (fun us ws => us ++ ws) (fun vs zs => vs ++ zs) := by
  obtain ⟨oc, od, kV, doc, pm, an, cdv, ct, osl, rfl, lk, hcd⟩ := F.ex
  refine ⟨fun s us ws X l1 l2 => ?_, fun r1 r2 => r1.append r2⟩
  match us, ws, l1, l2 with
  | [], [v0, v1, v2, v3], _, _ => exact .of_eq rfl
theorem g__law_right (T : TX K mg) : FnG P w K mg base CX0 70 T.f__law_right (spRightY) := by
  refine okG T.F__law_right sc__law_right (bd__law_right T.F__law_right) (fun vs H Q E h => ?_) (fun cdv A out s H vs Q E hr fr h => ?_)
  · obtain ⟨u1, u2, o1, o2, v1, v2, d1, d2, rfl, M1, M2, R1, R2, C, k⟩ := h
    rfl
  · obtain ⟨u1, u2, o1, o2, v1, v2, d1, d2, rfl, M1, M2, R1, R2, C, k⟩ := h
    refine ⟨_, (pss_cons (ps_set (i := 4) sc__law_right.nd rfl (Or.inl rfl) (pe_callB (r := rReprT K 250000) (call_reprT (n := 250000) (by rw [sizeLine_eq]; decide) hr.units fr) (by rfl) T.b_repr (by decide +kernel) (pa_cons (pe_lstB (pa_cons (pv 2) (pa_cons (pv 3) pa_nil))) pa_nil)))
 (pss_cons (ps_set (i := 5) sc__law_right.nd rfl (Or.inl rfl) (pe_callR (r_shows_apart T) (hr.mono (by decide)) (by rfl) T.m_shows_apart T.F_shows_apart.kp pass0 (pa_cons (pe_callG (g__law_web T) (hr.mono (by decide)) fr (by rfl) T.m__law_web T.F__law_web.kp pass0 (pa_cons (pv 0) pa_nil)) (pa_cons (pe_callG (g__law_web T) (hr.mono (by decide)) fr (by rfl) T.m__law_web T.F__law_web.kp pass0 (pa_cons (pv 1) pa_nil)) (pa_cons (pv 2) (pa_cons (pv 3) pa_nil))))))
 (pss_cons (ps_set (i := 6) sc__law_right.nd rfl (Or.inl rfl) (pe_callN0 (ok_shows_apart T) (hr.mono (by decide)) (by rfl) T.m_shows_apart T.F_shows_apart.kp (kb_shows_apart T.F_shows_apart) pass0 (pk_cons (pe_callG (g__law_web T) (hr.mono (by decide)) fr (by rfl) T.m__law_web T.F__law_web.kp pass0 (pa_cons (pv 0) pa_nil)) (pk_cons (pe_callG (g__law_web T) (hr.mono (by decide)) fr (by rfl) T.m__law_web T.F__law_web.kp pass0 (pa_cons (pv 1) pa_nil)) (pk_cons (pv 2) (pk_cons (pv 3) pk_nil))))))
 (pss_cons (ps_set (i := 7) sc__law_right.nd rfl (Or.inl rfl) (pe_callG (g__law_due T) (hr.mono (by decide)) fr (by rfl) T.m__law_due T.F__law_due.kp pass0 (pa_cons (pv 0) (pa_cons (pv 1) (pa_cons (pv 2) (pa_cons (pv 3) pa_nil))))))
 (pss_one (ps_ret (pe_and (pe_cmpR op_eq (pe_callB (r := rReprT K 250000) (call_reprT (n := 250000) (by rw [sizeLine_eq]; decide) hr.units fr) (by rfl) T.b_repr (by decide +kernel) (pa_cons (pe_lst (pa_cons (pv 5) (pa_cons (pv 6) pa_nil))) pa_nil)) (pe_callB (r := rReprT K 250000) (call_reprT (n := 250000) (by rw [sizeLine_eq]; decide) hr.units fr) (by rfl) T.b_repr (by decide +kernel) (pa_cons (pe_lst (pa_cons (pv 7) (pa_cons (pv 7) pa_nil))) pa_nil)) (nomark _)) (pe_one (pe_cmpR op_eq (pe_callB (r := rReprT K 250000) (call_reprT (n := 250000) (by rw [sizeLine_eq]; decide) hr.units fr) (by rfl) T.b_repr (by decide +kernel) (pa_cons (pe_lstB (pa_cons (pv 2) (pa_cons (pv 3) pa_nil))) pa_nil)) (pv 4) (nomark _)))))))))), ?_⟩
    refine ⟨_, rfl, _, rfl, by show 2 ≤ sizeLine; decide, fun L sL nL => ?_⟩
    have s1 := Same.new nL (o := .lst [v1, v2])
    have hL := upd_same (H := H) (a := L) (o := .lst [v1, v2])
    generalize upd H L (.lst [v1, v2]) = H1 at s1 hL ⊢
    refine (R1.st s1).pair (R2.st s1) C hL ?_
    refine gname_nx ?_
    dsimp only
    refine seq_of ?_
    refine ⟨_, rfl, u1, o1, rfl, M1.same s1, fun x1 H2 s2 X1 => ?_⟩
    have S2 := s1.trans s2
    refine ⟨_, rfl, u2, o2, rfl, M2.same S2, fun y1 H3 s3 Y1 => ?_⟩
    have S3 := S2.trans s3
    refine ⟨_, rfl, _, rfl, x1, y1, _, _, v1, v2, d1, d2, rfl, X1.same s3, Y1, R1.st S3, R2.st S3, fun b1 H4 s4 e1 => ?_⟩
    have S4 := S3.trans s4
    have e1 := e1.trans (apart_same R1 R2 S3)
    refine gname_nx ?_
    dsimp only
    refine seq_of ?_
    refine ⟨_, rfl, u1, o1, rfl, M1.same S4, fun x2 H5 s5 X2 => ?_⟩
    have S5 := S4.trans s5
    refine ⟨_, rfl, u2, o2, rfl, M2.same S5, fun y2 H6 s6 Y2 => ?_⟩
    have S6 := S5.trans s6
    refine ⟨_, rfl, _, rfl, rfl, x2, y2, _, _, v1, v2, d1, d2, rfl, X2.same s6, Y2, R1.st S6, R2.st S6, fun b2 H7 s7 e2 => ?_⟩
    have S7 := S6.trans s7
    have e2 := e2.trans (apart_same R1 R2 S6)
    obtain rfl : b1 = b2 := Bool.eq_iff_iff.mpr (e1.trans e2.symm)
    refine gname_nx ?_
    dsimp only
    refine seq_of ?_
    refine ⟨_, rfl, _, rfl, _, rfl, _, rfl, u1, u2, o1, o2, v1, v2, d1, d2, rfl, M1.same S7, M2.same S7, R1.st S7, R2.st S7, fun b3 H8 s8 e3 => ?_⟩
    have S8 := S7.trans s8
    have e3 := e3.trans (apart_same R1 R2 S7)
    obtain rfl : b1 = b3 := Bool.eq_iff_iff.mpr (e1.trans e3.symm)
    refine gname_nx ?_
    dsimp only
    refine ⟨_, rfl, _, rfl, by show 2 ≤ sizeLine; decide, fun A nA => ?_⟩
    have sA := Same.new nA (o := .lst [.bl b1, .bl b1])
    refine .inr ⟨A, _, rfl, .lst (SqL.of upd_same) (.cons (.bl _) (.cons (.bl _) .nil)), shows_bool2 _ _, ?_⟩
    have SA := S8.trans sA
    generalize upd H8 A (.lst [.bl b1, .bl b1]) = H9 at SA ⊢
    refine ⟨_, rfl, _, rfl, by show 2 ≤ sizeLine; decide, fun B nB => ?_⟩
    have sB := Same.new nB (o := .lst [.bl b1, .bl b1])
    refine .inr ⟨B, _, rfl, .lst (SqL.of upd_same) (.cons (.bl _) (.cons (.bl _) .nil)), shows_bool2 _ _, ?_⟩
    have SB := SA.trans sB
    generalize upd H9 B (.lst [.bl b1, .bl b1]) = H10 at SB ⊢
    refine ⟨rfl, _, rfl, ?_⟩
    rw [decide_eq_true rfl]
    refine iteT ?_
    refine ⟨_, rfl, _, rfl, by show 2 ≤ sizeLine; decide, fun D sD nD => ?_⟩
    have sE := Same.new nD (o := .lst [v1, v2])
    have SE := SB.trans sE
    refine (R1.st SE).pair (R2.st SE) C upd_same ?_
    refine ⟨_, rfl, rfl, ?_⟩
    rw [decide_eq_true rfl]
    exact k _ SE
end
end RR
set_option maxHeartbeats 4000000
namespace RR
open PySem PySem.Spec PyProof.Rows L2
local macro_rules | `(tactic| walk_at "hp") => `(tactic| first | assumption | exact upd_same | (refine hp_new ?_ (by assumption); walk_at "hp") | (refine hp_mut ?_ (by first | assumption | (apply Ne.symm; assumption)); walk_at "hp") | (refine Same.at (by assumption) ?_; walk_at "hp"))
local macro_rules | `(tactic| walk_at "same") => `(tactic| first | exact fun _ _ z => z | assumption | (refine same_new ?_ (by assumption); walk_at "same") | (refine L2.Same.trans ?_ (by assumption); walk_at "same"))
local macro_rules | `(tactic| walk_at "sq") => `(tactic| exact SqL.of (by walk_at "hp"))
local macro_rules | `(tactic| walk_at "sqT") => `(tactic| exact SqT.of (by walk_at "hp"))

open LamX
section
variable {P : Program} {w : World} {K : PySem.W.Frag} {mg : Str → Option Value} {base : Heap}
theorem ok__law_choices (T : TX K mg) (d : Nat) (hL : FnR P w K mg base CX0 (d + 1) T.f__law_choices (spChoiceT d)) : FnOk P w K mg base CX0 (d + 2) T.f__law_choices T.d__law_choices ["_law_names_here", "_law_many"] (spChoiceT (d + 1)) := by
  refine T.F__law_choices.ok sc__law_choices (fun vs H Q E h => ?_) (fun cdv A out s H vs Q E hr h => ?_)
  · obtain ⟨l, ws, m, rfl, hl, few, md, k⟩ := h
    rfl
  · obtain ⟨l, ws, m, rfl, hl, few, md, k⟩ := h
    refine ⟨_, (pss_cons (ps_if (pt_cmpR op_eq (pv 1) pe_int (nomark _)) (pss_one (ps_ret (pe_lst (pa_cons (pe_tup pa_nil) pa_nil)))) pss_nil)
 (pss_cons (ps_set (i := 2) sc__law_choices.nd rfl (Or.inl rfl) (pe_lst pa_nil))
 (pss_cons (ps_for PassesOwn.never rfl (pi_range1 (by rfl) T.b_range (pa_cons (pe_callB call_len_seq (by rfl) T.b_len PySem.boot_len (pa_cons (pv 0) pa_nil)) pa_nil)) (pg_name (i := 3) sc__law_choices.nd rfl (Or.inr rfl))
 (pss_one (ps_set (i := 2) sc__law_choices.nd rfl (Or.inl rfl) (pe_op op_cat (pv 2) (pe_lc (own := [("_law_rest", 4)]) (g := (gName 4)) (tt := tYes) (by rfl) sc__law_choices.nd (pi_list (pe_callR hL (hr.mono (by omega)) (by rfl) T.m__law_choices T.F__law_choices.kp pass0 (pa_cons (pe_slice sl_list (pv 0) (po_some (pe_op op_add (pv 3) pe_int)) po_none) (pa_cons (pe_op op_sub (pv 1) pe_int) pa_nil)))) (blkOk_by (own := [("_law_rest", 4)]) (N := N__law_choices) (sc := defScope s__law_choices) (by decide +kernel)) (fun _ _ _ _ _ => (pg_name (i := 4) sc__law_choices.nd rfl (Or.inl rfl))) (fun _ _ _ _ _ => pts_nil) (fun _ _ _ _ _ => (pe_op (show OpR _ _ (rCatV K) from op_catV) (pe_tup (pa_cons (pe_ix (r := rIxL K) ix_list (pv 0) (pv 3) (fun _ _ => rfl)) pa_nil)) (pv 4))))))))
 (pss_one (ps_ret (pv 2)))))), ?_⟩
    refine ⟨_, rfl, rfl, _, rfl, ?_⟩
    rw [dec_int]
    cases m with
    | zero =>
      rw [decide_eq_true (show ((0 : Nat) : Int) = 0 from rfl)]
      refine iteT ?_
      refine ⟨by show 0 ≤ sizeLine; decide, fun t nt => ⟨by show 1 ≤ sizeLine; decide, fun p np => ?_⟩⟩
      have S2 := (Same.new nt (o := .tup [])).trans (Same.new np (o := .lst [.ref t]))
      exact k p [.ref t] _ S2 ((Same.new nt (o := .tup [])).free np) upd_same (.cons ⟨t, rfl, hp_new upd_same np⟩ .nil)
    | succ m =>
      rw [decide_eq_false (show ¬ ((m + 1 : Nat) : Int) = 0 by omega)]
      refine iteF ?_
      refine ⟨by show 0 ≤ sizeLine; decide, fun F nF => ?_⟩
      have S0 := Same.new nF (o := .lst [])
      have hF := upd_same (H := H) (a := F) (o := .lst [])
      generalize upd H F (.lst []) = H0 at S0 hF ⊢
      refine gname_nx ?_
      dsimp only
      refine seq_of ?_
      refine ⟨_, rfl, l, _, rfl, .inl (SqL.of (S0 _ _ hl)), _, rfl, by omega, by rw [List.length_map]; omega, ?_⟩
      refine for_range (lo := 0) (n := (((ws.map V.str).length : Nat) : Int).toNat) (fun i σ H' => ∃ b3 b4 q cs, σ = [some (.ref l), some (.int ((m + 1 : Nat) : Int)), some (.ref q), b3, b4] ∧ Same H H' ∧ H q = none ∧ H' q = some (.lst cs) ∧ Paired (TpA H') cs ((List.range i).flatMap fun i => (chs m (ws.drop (i + 1))).map fun c => ws.getD i Str.empty :: c)) ⟨_, _, F, [], rfl, S0, nF, hF, .nil⟩ ?_ ?_
      · rintro i σ H1 hi ⟨b3, b4, q, cs, rfl, s1, nq, hq, pc⟩
        have il : i < ws.length := by rw [List.length_map] at hi; omega
        obtain ⟨n, en⟩ : ∃ n, ws[i]? = some n := ⟨_, List.getElem?_eq_getElem il⟩
        have en2 : (ws.map V.str)[i]? = some (.str n) := by rw [List.getElem?_map, en]; rfl
        have gd : ws.getD i Str.empty = n := by rw [List.getD_eq_getElem?_getD, en]; rfl
        rw [Int.zero_add]
        refine gname_nx ?_
        dsimp only
        refine ⟨_, rfl, _, rfl, _, rfl, _, _, rfl, rfl, _, rfl, l, _, rfl, SqL.of (s1 _ _ hl), fun L4 n4 => ?_⟩
        have cd : cutV (ws.map V.str) (some ((i : Int) + 1)) none = (ws.drop (i + 1)).map V.str := by
          rw [show ((i : Int) + 1) = ((i + 1 : Nat) : Int) from by push_cast; rfl, (mid_cut _ _).2, List.map_drop]
        have s4 := Same.new n4 (o := .lst (cutV (ws.map V.str) (some ((i : Int) + 1)) none))
        have h4 := upd_same (H := H1) (a := L4) (o := .lst (cutV (ws.map V.str) (some ((i : Int) + 1)) none))
        generalize upd H1 L4 (.lst (cutV (ws.map V.str) (some ((i : Int) + 1)) none)) = H4 at s4 h4 ⊢
        rw [cd] at h4
        refine ⟨_, rfl, _, _, rfl, rfl, L4, ws.drop (i + 1), m, by show [V.ref L4, V.int (((m + 1 : Nat) : Int) - 1)] = _; rw [show ((m + 1 : Nat) : Int) - 1 = ((m : Nat) : Int) from by omega], h4, by rw [List.length_drop]; omega, by omega, fun q2 cs2 H5 s5 nq2 hq2 pc2 => ?_⟩
        have l2 : cs2.length ≤ 1024 := by
          have a := Paired.length pc2
          have b := chs_len (ws.drop (i + 1)) m
          have c : 2 ^ (ws.drop (i + 1)).length ≤ 2 ^ 10 := Nat.pow_le_pow_right (by omega) (by rw [List.length_drop]; omega)
          omega
        have S5 := (s1.trans s4).trans s5
        have hq5 := s5 _ _ (s4 _ _ hq)
        refine ⟨q2, rfl, ⟨_, SqL.of hq2⟩, fun D nD => ?_⟩
        refine lc_list (xs := cs2) (fun j H' => Same H5 H' ∧ ∃ acc, H' D = some (.lst acc) ∧ Paired (TpA H') acc (((chs m (ws.drop (i + 1))).take j).map fun c => n :: c)) ⟨Same.new nD, [], upd_same, by rw [List.take_zero]; exact .nil⟩ (fun i H' _ z => SqL.of (z.1 _ _ hq2)) ?_ ?_
        · rintro j y H6 hy ⟨s6, acc, hD, pa⟩
          obtain ⟨c, ec, r, rfl, hr0⟩ := pair_at pc2 hy
          have hr6 := s6 _ _ hr0
          have al := Paired.length pa
          rw [List.length_map, List.length_take] at al
          have jl := (List.getElem?_eq_some_iff.mp hy).1
          have cl : c.length ≤ 10 := by
            have a := (chs_sub _ _ _ (List.mem_of_getElem? ec)).length_le
            rw [List.length_drop] at a
            omega
          refine ⟨rfl, _, rfl, _, rfl, _, _, _, _, rfl, rfl, SqL.of ((S5.trans s6) _ _ hl), atI_nat (j := i) en2, by show 1 ≤ sizeLine; decide, fun t nt => ?_⟩
          have st := Same.new nt (o := .tup [.str n])
          refine ⟨_, rfl, t, r, _, _, rfl, rfl, upd_same, st _ _ hr6, by rw [List.length_map, sizeLine_eq]; show 1 + _ ≤ _; omega, fun p H7 s7 h7 => ?_⟩
          have hD7 := s7 _ _ (st _ _ hD)
          refine ⟨acc, hD7, by rw [sizeLine_eq]; omega, same_mut (s6.trans (st.trans s7)) nD, _, upd_same, ?_⟩
          rw [List.take_add_one, ec, Option.toList_some, List.map_append]
          exact Paired.snoc (Paired.mono (fun _ _ hh => (hh.same (st.trans s7)).mut hD7) pa) ⟨p, rfl, hp_mut h7 (ne_of h7 hD7 (fun z => by cases z))⟩
        rintro H6 ⟨s6, acc, hD, pa⟩
        rw [Paired.length pc2, List.take_length] at pa
        have S6 := S5.trans s6
        have hq6 := s6 _ _ hq5
        have al := Paired.length pa
        rw [List.length_map, ← Paired.length pc2] at al
        have ql : cs.length ≤ 20000 := by
          rw [Paired.length pc]
          refine Nat.le_trans (flat_le (B := 1024) fun x hx => ?_) (by rw [List.length_range]; omega)
          rw [List.length_map]
          exact Nat.le_trans (chs_len _ _) (Nat.pow_le_pow_right (n := 2) (by omega) (show (ws.drop (x + 1)).length ≤ 10 by rw [List.length_drop]; omega))
        refine ⟨q, D, _, _, rfl, rfl, hq6, hD, by rw [sizeLine_eq]; omega, fun R nR => ?_⟩
        have bR := Same.new nR (o := .lst (cs ++ acc))
        refine ⟨_, _, R, _, rfl, S6.trans bR, S6.free nR, upd_same, ?_⟩
        rw [List.range_succ, List.flatMap_append, List.flatMap_singleton, gd]
        exact pair_app (Paired.mono (fun _ _ hh => hh.same (((s4.trans s5).trans s6).trans bR)) pc) (Paired.mono (fun _ _ hh => hh.same bR) pa)
      rintro σ H1 ⟨b3, b4, q, cs, rfl, s1, nq, hq, pc⟩
      rw [show (((ws.map V.str).length : Nat) : Int).toNat = ws.length from by rw [List.length_map]; omega] at pc
      exact ⟨_, rfl, k q cs H1 s1 nq hq pc⟩
theorem r__law_choices (T : TX K mg) : FnR P w K mg base CX0 13 T.f__law_choices (spChoiceT 12) := by
  have h0 : FnR P w K mg base CX0 (0 + 1) T.f__law_choices (spChoiceT 0) := fun A out s H us vs Q E _ _ _ z => by
    obtain ⟨l, ws, m, _, _, _, md, _⟩ := z
    exact absurd md (Nat.not_lt_zero _)
  have h : ∀ d : Nat, FnR P w K mg base CX0 (d + 1) T.f__law_choices (spChoiceT d) := fun d => by
    induction d with
    | zero => exact h0
    | succ d ih => exact (rawAll (ok__law_choices T d ih) (bd__law_choices T.F__law_choices)).mono (by omega)
  exact (h 12).mono (by decide)
end
end RR
set_option maxHeartbeats 4000000
namespace RR
open PySem PySem.Spec PyProof.Rows L2
local macro_rules | `(tactic| walk_at "hp") => `(tactic| first | assumption | exact upd_same | (refine hp_new ?_ (by assumption); walk_at "hp") | (refine hp_mut ?_ (by first | assumption | (apply Ne.symm; assumption)); walk_at "hp") | (refine Same.at (by assumption) ?_; walk_at "hp"))
local macro_rules | `(tactic| walk_at "same") => `(tactic| first | exact fun _ _ z => z | assumption | (refine same_new ?_ (by assumption); walk_at "same") | (refine L2.Same.trans ?_ (by assumption); walk_at "same"))
local macro_rules | `(tactic| walk_at "sq") => `(tactic| exact SqL.of (by walk_at "hp"))
local macro_rules | `(tactic| walk_at "sqT") => `(tactic| exact SqT.of (by walk_at "hp"))

open LamX
section
variable {P : Program} {w : World} {K : PySem.W.Frag} {mg : Str → Option Value} {base : Heap}
theorem g__law_least_ways (T : TX K mg) : FnG P w K mg base CX0 20 T.f__law_least_ways (spLeastP K) := by
  refine okG T.F__law_least_ways sc__law_least_ways (bd__law_least_ways T.F__law_least_ways) (fun vs H Q E h => ?_) (fun cdv A out s H vs Q E hr fr h => ?_)
  · obtain ⟨l, xs, ls, rfl, hl, tl, ok, few, k⟩ := h
    rfl
  · obtain ⟨l, xs, ls, rfl, hl, tl, ok, few, k⟩ := h
    refine ⟨_, (pss_cons (ps_set (i := 1) sc__law_least_ways.nd rfl (Or.inl rfl) (pe_callG (g__law_names T) (hr.mono (by decide)) fr (by rfl) T.m__law_names T.F__law_names.kp pass0 (pa_cons (pv 0) pa_nil)))
 (pss_cons (ps_set (i := 2) sc__law_least_ways.nd rfl (Or.inl rfl) (pe_lst pa_nil))
 (pss_cons (ps_for PassesOwn.never rfl (pi_range1 (by rfl) T.b_range (pa_cons (pe_op op_add (pe_callB call_len_seq (by rfl) T.b_len PySem.boot_len (pa_cons (pv 1) pa_nil)) pe_int) pa_nil)) (pg_name (i := 3) sc__law_least_ways.nd rfl (Or.inl rfl))
 (pss_one (ps_for PassesOwn.never rfl (pi_list (pe_callR (r__law_choices T) (hr.mono (by decide)) (by rfl) T.m__law_choices T.F__law_choices.kp pass0 (pa_cons (pv 1) (pa_cons (pv 3) pa_nil)))) (pg_name (i := 4) sc__law_least_ways.nd rfl (Or.inr rfl))
 (pss_cons (ps_setLc (i := 5) (own := [("_law_some", 6)]) (g := (gName 6)) (by rfl) sc__law_least_ways.nd rfl rfl (sw_true rfl rfl rfl (by decide +kernel)) (pi_list (pv 2)) (blkOk_by (own := [("_law_some", 6)]) (N := N__law_least_ways) (sc := defScope s__law_least_ways) (by decide +kernel)) (fun _ _ _ _ _ => (pg_name (i := 6) sc__law_least_ways.nd rfl (Or.inl rfl))) (fun _ _ _ _ _ => (pts_one (pt_cmpR (show OpR _ _ (rEqD K) from op_eqD hr.units) (pe_lc (own := [("_law_name", 7)]) (g := (gName 7)) (by rfl) sc__law_least_ways.nd (show PI _ _ _ (iTup K (tVar 6)) from pi_tup (pv 6)) (blkOk_in (own := [("_law_name", 7)]) (N := N__law_least_ways) (by decide +kernel)) (fun _ _ _ _ _ => (pg_name (i := 7) sc__law_least_ways.nd rfl (Or.inl rfl))) (fun _ _ _ _ _ => (pts_one (pt_cmpR (show OpR _ (compareOp .NotIn) (rIn K true) from op_notIn_seq) (pv 7) (pv 4) (by rfl)))) (fun _ _ _ _ _ => (pv 7))) (pe_lst pa_nil) (nomark _)))) (fun _ _ _ _ _ => (pv 6)))
 (pss_one (ps_if (PW.pt (pw_and (pt_cmpR (show OpR _ _ (rEqD K) from op_eqD hr.units) (pv 5) (pe_lst pa_nil) (nomark _)) (pw_and1 (pt_val (pe_callG (g__law_joined T) (hr.mono (by decide)) fr (by rfl) T.m__law_joined T.F__law_joined.kp pass0 (pa_cons (pv 0) (pa_cons (pv 4) pa_nil))))))) (pss_one (ps_expr (pe_bm PySem.F.plainAttrs_list PySem.F.slot_list_append PySem.F.type_list_append mt_append (pv 2) (pa_cons (pv 4) pa_nil)))) pss_nil))))))
 (pss_one (ps_ret (pv 2)))))), ?_⟩
    have nmo := names_pp ok
    have nml := names_len ls
    refine ⟨_, rfl, l, xs, ls, rfl, hl, tl, by omega, fun q H1 s1 nq hq => ?_⟩
    generalize hN : namesL ls = nm at hq nmo nml
    refine gname_nx ?_
    dsimp only
    refine seq_of ?_
    refine ⟨by show 0 ≤ sizeLine; decide, fun F nF => ?_⟩
    have S0 := s1.trans (Same.new nF (o := .lst []))
    have hF := upd_same (H := H1) (a := F) (o := .lst [])
    have hq0 := hp_new (o := .lst []) hq nF
    have NF := s1.free nF
    have Fq : F ≠ q := (ne_of_none hq nF).symm
    have Fl : F ≠ l := (ne_of_none (s1 _ _ hl) nF).symm
    generalize upd H1 F (.lst []) = H0 at S0 hF hq0 ⊢
    refine gname_nx ?_
    dsimp only
    refine seq_of ?_
    refine ⟨_, rfl, _, _, rfl, .inl (SqL.of hq0), _, _, rfl, rfl, _, rfl, by omega, by rw [List.length_map]; omega, ?_⟩
    rw [List.length_map]
    refine for_range (lo := 0) (n := (((nm.length : Nat) : Int) + 1).toNat) (fun i σ H' => ∃ b3 b4 b5 b6 b7 cs L, σ = [some (.ref l), some (.ref q), some (.ref F), b3, b4, b5, b6, b7] ∧ Same H H' ∧ H' q = some (.lst (nm.map V.str)) ∧ H' F = some (.lst cs) ∧ Paired (TpA H') cs L ∧ L.length ≤ 1024 * i ∧ (∀ c ∈ L, c.length ≤ 10 ∧ ∀ n ∈ c, PP n) ∧ Lsf ls i [] L) ⟨_, _, _, _, _, [], [], rfl, S0, hq0, hF, .nil, Nat.zero_le _, fun c hc => (by cases hc), fun c hc => (by cases hc), fun c _ z => absurd z (Nat.not_lt_zero _), fun c hc => (by cases hc)⟩ ?_ ?_
    · rintro i σ H2 hi ⟨b3, b4, b5, b6, b7, cs, L, rfl, s2, hq2, hF2, pc, ln, ok2, lf⟩
      have il : i ≤ nm.length := by omega
      rw [Int.zero_add]
      refine gname_nx ?_
      dsimp only
      refine ⟨_, rfl, _, rfl, q, nm, i, rfl, hq2, by omega, by omega, fun q3 c3 H3 s3 nq3 hq3 pc3 => ?_⟩
      have S3 := s2.trans s3
      have Fq3 : q3 ≠ F := (ne_of_none hF2 nq3).symm
      have c3l := Paired.length pc3
      have chl : (chs i nm).length ≤ 1024 := Nat.le_trans (chs_len _ _) (Nat.pow_le_pow_right (n := 2) (by omega) (show nm.length ≤ 10 by omega))
      refine ⟨q3, rfl, ⟨_, SqL.of hq3⟩, ?_⟩
      refine for_list (xs := c3) (fun j σ H' => ∃ b4 b5 b6 b7 cs L, σ = [some (.ref l), some (.ref q), some (.ref F), some (.int ((i : Nat) : Int)), b4, b5, b6, b7] ∧ Same H H' ∧ H' q = some (.lst (nm.map V.str)) ∧ H' q3 = some (.lst c3) ∧ Paired (TpA H') c3 (chs i nm) ∧ H' F = some (.lst cs) ∧ Paired (TpA H') cs L ∧ L.length ≤ 1024 * i + j ∧ (∀ c ∈ L, c.length ≤ 10 ∧ ∀ n ∈ c, PP n) ∧ Lsf ls i ((chs i nm).take j) L) ⟨_, _, _, _, cs, L, rfl, S3, s3 _ _ hq2, hq3, pc3, s3 _ _ hF2, Paired.mono (fun _ _ hh => hh.same s3) pc, by omega, ok2, by rw [List.take_zero]; exact lf⟩ (fun i σ H' _ z => by obtain ⟨_, _, _, _, _, _, _, _, _, h, _⟩ := z; exact SqL.of h) ?_ ?_
      · rintro j y σ H4 hy ⟨b4, b5, b6, b7, cs, L, rfl, s4, hq4, h34, pc4, hF4, pl, ln4, ok4, lf4⟩
        obtain ⟨c, ec, r, rfl, hr0⟩ := pair_at pc4 hy
        have cm := List.mem_of_getElem? ec
        have csb := chs_sub _ _ _ cm
        have cln : c.length ≤ 10 := by have := csb.length_le; omega
        have cnm : ∀ n ∈ c, PP n := fun n hn => nmo n (csb.subset hn)
        have csl := Paired.length pl
        have jl := (List.getElem?_eq_some_iff.mp ec).1
        refine gname_nx ?_
        dsimp only
        refine seq_of ?_
        refine ⟨_, rfl, F, rfl, ⟨_, SqL.of hF4⟩, fun D nD => ?_⟩
        refine lc_list (xs := cs) (fun e H' => Same H4 H' ∧ ∃ acc, H' D = some (.lst acc) ∧ Paired (TpA H') acc ((L.take e).filter fun d => d.all fun n => decide (n ∈ c))) ⟨Same.new nD, [], upd_same, by rw [List.take_zero]; exact .nil⟩ (fun i H' _ z => SqL.of (z.1 _ _ hF4)) ?_ ?_
        · rintro e y2 H5 hy2 ⟨s5, acc, hD, pa⟩
          obtain ⟨d, ed, r2, rfl, hr2⟩ := pair_at pl hy2
          have dm := List.mem_of_getElem? ed
          have hr25 := s5 _ _ hr2
          refine ⟨rfl, ?_⟩
          refine ⟨_, rfl, r2, rfl, ⟨_, SqT.of hr25⟩, fun E nE => ?_⟩
          refine lc_tup (xs := d.map V.str) (fun f H' => Same H5 H' ∧ H' E = some (.lst (((d.take f).filter fun n => !decide (n ∈ c)).map V.str))) ⟨Same.new nE, by rw [List.take_zero]; exact upd_same⟩ (fun i H' _ z => SqT.of (z.1 _ _ hr25)) ?_ ?_
          · rintro f y3 H6 hy3 ⟨s6, hE⟩
            rw [List.getElem?_map] at hy3
            obtain ⟨n, en, rfl⟩ := Option.map_eq_some_iff.mp hy3
            have hr6 := (s5.trans s6) _ _ hr0
            refine ⟨rfl, _, rfl, _, rfl, r, _, rfl, .inr (SqT.of hr6), rfl, flat_nmsX _, _, rfl, ?_⟩
            rw [if_pos rfl, inV_nmsX]
            have fl := List.length_filter_le (fun n => !decide (n ∈ c)) (d.take f)
            have d10 := (ok4 d dm).1
            rw [List.length_take] at fl
            by_cases z : n ∈ c
            · rw [decide_eq_true z]
              refine iteF ?_
              refine ⟨s6, ?_⟩
              rw [filter_snocB en, if_neg (by rw [decide_eq_true z]; decide), List.append_nil]
              exact hE
            · rw [decide_eq_false z]
              refine iteT ?_
              refine ⟨_, rfl, _, hE, by rw [List.length_map, sizeLine_eq]; omega, same_mut s6 nE, ?_⟩
              rw [upd_same, filter_snocB en, if_pos (by rw [decide_eq_false z]; rfl), List.map_append]
              rfl
          rintro H6 ⟨s6, hE⟩
          rw [List.length_map, List.take_length] at hE
          refine ⟨by show 0 ≤ sizeLine; decide, fun G nG => ?_⟩
          have sG := Same.new nG (o := .lst [])
          refine ⟨.list ((d.filter fun n => !decide (n ∈ c)).map PyData.str), .list [], .lst (SqL.of (sG _ _ hE)) (dp_strsT _), .lst (SqL.of upd_same) .nil, strs_shapedX (fun n hn => ((ok4 d dm).2 n (List.mem_filter.mp hn).1).1), by decide +kernel, _, rfl, ?_⟩
          rw [eqv_nilX, filter_no]
          have S7 := s6.trans sG
          have hD7 := S7 _ _ hD
          generalize upd H6 G (.lst []) = H7 at S7 hD7 ⊢
          have al := Paired.length pa
          have fl := List.length_filter_le (fun d => d.all fun n => decide (n ∈ c)) (L.take e)
          rw [List.length_take] at fl
          by_cases z : (d.all fun n => decide (n ∈ c)) = true
          · rw [z]
            refine iteT ?_
            refine ⟨_, rfl, acc, hD7, by rw [sizeLine_eq]; omega, same_mut (s5.trans S7) nD, _, upd_same, ?_⟩
            rw [filter_snocB ed, if_pos z]
            exact Paired.snoc (Paired.mono (fun _ _ hh => (hh.same S7).mut hD7) pa) ⟨r2, rfl, hp_mut (S7 _ _ hr25) (ne_of (S7 _ _ hr25) hD7 (fun z => by cases z))⟩
          · rw [(Bool.not_eq_true _).mp z]
            refine iteF ?_
            refine ⟨s5.trans S7, acc, hD7, ?_⟩
            rw [filter_snocB ed, if_neg z, List.append_nil]
            exact Paired.mono (fun _ _ hh => hh.same S7) pa
        rintro H5 ⟨s5, acc, hD, pa⟩
        rw [csl, List.take_length] at pa
        refine gname_nx ?_
        dsimp only
        refine ⟨_, rfl, by show 0 ≤ sizeLine; decide, fun G nG => ?_⟩
        have sG := Same.new nG (o := .lst [])
        refine ⟨.list ((L.filter fun d => d.all fun n => decide (n ∈ c)).map dTp), .list [], .lst (SqL.of (sG _ _ hD)) (tps_dp (Paired.mono (fun _ _ hh => hh.same sG) pa)), .lst (SqL.of upd_same) .nil, tps_shaped (fun d hd => fun n hn => ((ok4 d (List.mem_filter.mp hd).1).2 n hn).1), by decide +kernel, _, rfl, ?_⟩
        rw [eqv_nilX]
        have S6 := s5.trans sG
        generalize upd H5 G (.lst []) = H6 at S6 ⊢
        have hF6 := S6 _ _ hF4
        have s46 := s4.trans S6
        have pl6 : Paired (TpA H6) cs L := Paired.mono (fun _ _ hh => hh.same S6) pl
        have pc6 : Paired (TpA H6) c3 (chs i nm) := Paired.mono (fun _ _ hh => hh.same S6) pc4
        have tk : (chs i nm).take (j + 1) = (chs i nm).take j ++ [c] := by rw [List.take_add_one, ec]; rfl
        by_cases z : (L.filter fun d => d.all fun n => decide (n ∈ c)).isEmpty = true
        · rw [z]
          refine iteT ?_
          refine ⟨_, rfl, _, rfl, l, .ref r, xs, ls, c, rfl, s46 _ _ hl, tl.st (StT.same s46), ⟨r, rfl, .inr (SqT.of (S6 _ _ hr0))⟩, by omega, fun b H7 s7 hb => ⟨b, rfl, ?_⟩⟩
          have hF7 := s7 _ _ hF6
          have S7 := s46.trans s7
          cases b
          · refine iteF ?_
            exact ⟨_, _, _, _, cs, L, rfl, S7, s7 _ _ (S6 _ _ hq4), s7 _ _ (S6 _ _ h34), Paired.mono (fun _ _ hh => hh.same s7) pc6, hF7, Paired.mono (fun _ _ hh => hh.same s7) pl6, by omega, ok4, by rw [tk]; exact lsf_old lf4 fun y => by have := hb.mpr y; cases this⟩
          · refine iteT ?_
            refine ⟨_, rfl, .inl ⟨rfl, _, SqL.of hF7⟩, _, rfl, F, _, _, rfl, rfl, hF7, by rw [sizeLine_eq]; omega, ?_⟩
            refine ⟨_, _, _, _, cs ++ [.ref r], L ++ [c], rfl, same_mut S7 NF, hp_mut (s7 _ _ (S6 _ _ hq4)) Fq.symm, hp_mut (s7 _ _ (S6 _ _ h34)) Fq3, Paired.mono (fun _ _ hh => (hh.same s7).mut hF7) pc6, upd_same, Paired.snoc (Paired.mono (fun _ _ hh => (hh.same s7).mut hF7) pl6) ⟨r, rfl, hp_mut (s7 _ _ (S6 _ _ hr0)) (ne_of (s7 _ _ (S6 _ _ hr0)) hF7 (fun z => by cases z))⟩, by rw [List.length_append]; show _ + 1 ≤ _; omega, fun d hd => ?_, by rw [tk]; exact lsf_new lf4 (hb.mp rfl)⟩
            rcases List.mem_append.mp hd with hd | hd
            · exact ok4 d hd
            · rw [List.mem_singleton.mp hd]; exact ⟨cln, cnm⟩
        · rw [(Bool.not_eq_true _).mp z]
          refine iteF ?_
          refine iteF ?_
          have ex : ∃ d ∈ L, ∀ n ∈ d, n ∈ c := by
            cases hf : (L.filter fun d => d.all fun n => decide (n ∈ c)) with
            | nil => rw [hf] at z; exact (z rfl).elim
            | cons d0 dr =>
              have m0 : d0 ∈ L.filter fun d => d.all fun n => decide (n ∈ c) := by rw [hf]; exact .head _
              obtain ⟨m1, m2⟩ := List.mem_filter.mp m0
              exact ⟨d0, m1, fun n hn => of_decide_eq_true (List.all_eq_true.mp m2 n hn)⟩
          exact ⟨_, _, _, _, cs, L, rfl, s46, S6 _ _ hq4, S6 _ _ h34, pc6, hF6, pl6, by omega, ok4, by rw [tk]; exact lsf_old lf4 fun _ => ex⟩
      rintro σ H4 ⟨b4, b5, b6, b7, cs, L, rfl, s4, hq4, h34, pc4, hF4, pl, ln4, ok4, lf4⟩
      rw [c3l, List.take_length] at lf4
      rw [c3l] at ln4
      exact ⟨_, _, _, _, _, cs, L, rfl, s4, hq4, hF4, pl, by omega, ok4, lsf_next (by rw [hN]; exact lf4)⟩
    rintro σ H2 ⟨b3, b4, b5, b6, b7, cs, L, rfl, s2, hq2, hF2, pc, ln, ok2, lf⟩
    have te : (((nm.length : Nat) : Int) + 1).toNat = nm.length + 1 := by omega
    rw [te] at ln lf
    refine ⟨_, rfl, k F cs L H2 s2 NF hF2 pc (by omega) ok2 ?_⟩
    exact lsf_end lf (by rw [hN]; omega)
end
end RR
set_option maxHeartbeats 4000000
namespace RR
open PySem PySem.Spec PyProof.Rows L2
local macro_rules | `(tactic| walk_at "hp") => `(tactic| first | assumption | exact upd_same | (refine hp_new ?_ (by assumption); walk_at "hp") | (refine hp_mut ?_ (by first | assumption | (apply Ne.symm; assumption)); walk_at "hp") | (refine Same.at (by assumption) ?_; walk_at "hp"))
local macro_rules | `(tactic| walk_at "same") => `(tactic| first | exact fun _ _ z => z | assumption | (refine same_new ?_ (by assumption); walk_at "same") | (refine L2.Same.trans ?_ (by assumption); walk_at "same"))
local macro_rules | `(tactic| walk_at "sq") => `(tactic| exact SqL.of (by walk_at "hp"))
local macro_rules | `(tactic| walk_at "sqT") => `(tactic| exact SqT.of (by walk_at "hp"))

open LamX
section
variable {P : Program} {w : World} {K : PySem.W.Frag} {mg : Str → Option Value} {base : Heap}
theorem g__law_good (T : TX K mg) : FnG P w K mg base CX0 30 T.f__law_good (spGoodY) := by
  refine okG T.F__law_good sc__law_good (bd__law_good T.F__law_good) (fun vs H Q E h => ?_) (fun cdv A out s H vs Q E hr fr h => ?_)
  · obtain ⟨p, c, ns, a, g, u1, u2, o1, o2, rfl, W, M1, M2, ha, np1, np2, k⟩ := h
    rfl
  · obtain ⟨p, c, ns, a, g, u1, u2, o1, o2, rfl, W, M1, M2, ha, np1, np2, k⟩ := h
    refine ⟨_, (pss_cons (ps_set (i := 3) sc__law_good.nd rfl (Or.inl rfl) (pe_ifExp (pt_cmpR op_isN (pv 1) pe_non (nomark _)) (pe_lst (pa_cons (pe_tup pa_nil) pa_nil)) (pe_callG (g__law_least_ways T) (hr.mono (by decide)) fr (by rfl) T.m__law_least_ways T.F__law_least_ways.kp pass0 (pa_cons (pv 1) pa_nil))))
 (pss_cons (ps_setLc (i := 4) (own := [("_law_route", 5)]) (g := (gName 5)) (by rfl) sc__law_good.nd rfl rfl (sw_true rfl rfl rfl (by decide +kernel)) (pi_list (pv 3)) (blkOk_by (own := [("_law_route", 5)]) (N := N__law_good) (sc := defScope s__law_good) (by decide +kernel)) (fun _ _ _ _ _ => (pg_name (i := 5) sc__law_good.nd rfl (Or.inl rfl))) (fun _ _ _ _ _ => (pts_one (PW.pt (pw_and (pt_cmpR op_notN (pv 2) pe_non (nomark _)) (pw_and1 (pt_not (pt_val (pe_callG (g__law_joined T) (hr.mono (by decide)) fr (by rfl) T.m__law_joined T.F__law_joined.kp pass0 (pa_cons (pv 2) (pa_cons (pv 5) pa_nil)))))))))) (fun _ _ _ _ _ => (pv 5)))
 (pss_cons (ps_set (i := 5) sc__law_good.nd rfl (Or.inr rfl) (pe_ix ix_list (pe_op op_cat (pe_op op_cat (pv 4) (pv 3)) (pe_lst (pa_cons (pe_tup (pa_cons pe_str pa_nil)) pa_nil))) pe_int (fun _ _ => rfl)))
 (pss_cons (ps_setLc (i := 6) (own := [("_law_name", 7)]) (g := (gName 7)) (by rfl) sc__law_good.nd rfl rfl (sw_true rfl rfl rfl (by decide +kernel)) (pi_list (pe_lst (pa_cons pe_str (pa_cons pe_str (pa_cons pe_str (pa_cons pe_str (pa_cons pe_str (pa_cons pe_str (pa_cons pe_str pa_nil))))))))) (blkOk_by (own := [("_law_name", 7)]) (N := N__law_good) (sc := defScope s__law_good) (by decide +kernel)) (fun _ _ _ _ _ => (pg_name (i := 7) sc__law_good.nd rfl (Or.inl rfl))) (fun _ _ _ _ _ => (pts_one (pt_cmpR (show OpR _ (compareOp .NotIn) (rIn K true) from op_notIn_seq) (pv 7) (pv 5) (by rfl)))) (fun _ _ _ _ _ => (pv 7)))
 (pss_one (ps_ret (pe_lst (pa_cons (pv 5) (pa_cons (pe_callTy (T := "tuple") (r := rTupOf K) call_tuple_of (by rfl) T.b_tuple (by decide +kernel) (pa_cons (pe_lc (own := [("_law_name", 7)]) (g := (gName 7)) (by rfl) sc__law_good.nd (pi_list (pv 6)) (blkOk_by (own := [("_law_name", 7)]) (N := N__law_good) (sc := defScope s__law_good) (by decide +kernel)) (fun _ _ _ _ _ => (pg_name (i := 7) sc__law_good.nd rfl (Or.inl rfl))) (fun _ _ _ _ _ => (pts_one (pt_cmpR op_gt (pe_callG (g__law_draw T) (hr.mono (by decide)) fr (by rfl) T.m__law_draw T.F__law_draw.kp pass0 (pa_cons (pv 0) (pa_cons pe_int pa_nil))) pe_int (nomark _)))) (fun _ _ _ _ _ => (pv 7))) pa_nil)) pa_nil))))))))), ?_⟩
    refine asg_by2 (fun v H' => ∃ q cs, v = .ref q ∧ Same H H' ∧ H q = none ∧ H' q = some (.lst cs) ∧ (∀ v ∈ cs, RowA H' v) ∧ cs.length ≤ 20000) (fun Q hQ => ?_) ?_
    · rcases M1 with ⟨rfl, rfl⟩ | ⟨l, xs, ls, rfl, rfl, hl, tl, lk, ln⟩
      · refine ⟨_, rfl, rfl, _, rfl, ?_⟩
        refine iteT ?_
        refine ⟨by show 0 ≤ sizeLine; decide, fun t nt => ?_⟩
        refine ⟨by show 1 ≤ sizeLine; decide, fun q nq => ?_⟩
        exact hQ _ _ ⟨q, _, rfl, (Same.new nt).trans (Same.new nq), (Same.new nt).free nq, upd_same, fun v hv => by rw [List.mem_singleton.mp hv]; exact ⟨[], ⟨t, rfl, hp_new upd_same nq⟩, by simp, by decide⟩, by show 1 ≤ 20000; decide⟩
      · refine ⟨_, rfl, rfl, _, rfl, ?_⟩
        refine iteF ?_
        refine ⟨_, rfl, l, xs, ls, rfl, hl, tl, lk, ln, fun q cs L H' s nq hq pc lL ok lst => ?_⟩
        exact hQ _ _ ⟨q, cs, rfl, s, nq, hq, rows_all pc ok, by have := Paired.length pc; omega⟩
    rintro v H1 ⟨q, cs, rfl, s1, nq, hq, rc, lc⟩
    have W1 := W.keep s1
    have M2 := M2.same s1
    have K1 := Keep.of (p := p) s1
    refine gname_nx ?_
    dsimp only
    refine seq_of ?_
    refine ⟨_, rfl, q, rfl, ⟨_, SqL.of hq⟩, fun D nD => ?_⟩
    refine lc_list (xs := cs) (fun i H' => Same H1 H' ∧ ∃ acc, H' D = some (.lst acc) ∧ (∀ v ∈ acc, RowA H' v) ∧ acc.length ≤ i) ⟨Same.new nD, [], upd_same, fun v hv => (by cases hv), Nat.le_refl _⟩ (fun i H' _ z => SqL.of (z.1 _ _ hq)) ?_ ?_
    · rintro i y H2 hy ⟨s2, acc, hD, ra, la⟩
      have ry := rc y (List.mem_of_getElem? hy)
      have il := (List.getElem?_eq_some_iff.mp hy).1
      rcases M2 with ⟨rfl, rfl⟩ | ⟨l2, xs2, ls2, rfl, rfl, hl2, tl2, lk2, ln2⟩
      · refine ⟨rfl, _, rfl, rfl, _, rfl, ?_⟩
        refine iteF ?_
        refine iteF ?_
        exact ⟨s2, acc, hD, ra, by omega⟩
      · refine ⟨rfl, _, rfl, rfl, _, rfl, ?_⟩
        refine iteT ?_
        have ry2 := ry.same s2
        obtain ⟨c2, ⟨r, rfl, hr⟩, c7, cl⟩ := ry2
        refine ⟨_, rfl, _, rfl, l2, .ref r, xs2, ls2, c2, rfl, s2 _ _ hl2, tl2.st (StT.same s2), ⟨r, rfl, .inr (SqT.of hr)⟩, by omega, fun b H3 s3 hb => ?_⟩
        have hD3 := s3 _ _ hD
        refine ⟨_, rfl, ?_⟩
        cases b
        · refine iteT ?_
          refine ⟨_, rfl, _, hD3, by rw [sizeLine_eq]; omega, same_mut (s2.trans s3) nD, _, upd_same, fun v hv => ?_, by rw [List.length_append]; show _ + 1 ≤ _; omega⟩
          rcases List.mem_append.mp hv with hv | hv
          · exact ((ra v hv).same s3).mut hD3
          · rw [List.mem_singleton.mp hv]
            exact (ry.same (s2.trans s3)).mut hD3
        · refine iteF ?_
          exact ⟨s2.trans s3, acc, hD3, fun v hv => (ra v hv).same s3, by omega⟩
    rintro H2 ⟨s2, acc, hD, ra, la⟩
    have hq2 := s2 _ _ hq
    have W2 := W1.keep s2
    have K2 := K1.trans (Keep.of s2)
    refine gname_nx ?_
    dsimp only
    refine seq_of ?_
    refine ⟨_, rfl, _, rfl, D, q, _, _, rfl, rfl, hD, hq2, by rw [sizeLine_eq]; omega, fun R1 n1 => ?_⟩
    have r1 := Same.new n1 (o := .lst (acc ++ cs))
    have h1 := upd_same (H := H2) (a := R1) (o := .lst (acc ++ cs))
    generalize upd H2 R1 (.lst (acc ++ cs)) = H3 at r1 h1 ⊢
    refine ⟨by show 1 ≤ sizeLine; decide, fun t nt => ?_⟩
    have r2 := Same.new nt (o := .tup [.str "a"])
    have ht := upd_same (H := H3) (a := t) (o := .tup [.str "a"])
    generalize upd H3 t (.tup [.str "a"]) = H4 at r2 ht ⊢
    refine ⟨by show 1 ≤ sizeLine; decide, fun q3 n3 => ?_⟩
    have r3 := Same.new n3 (o := .lst [.ref t])
    have h3 := upd_same (H := H4) (a := q3) (o := .lst [.ref t])
    generalize upd H4 q3 (.lst [.ref t]) = H5 at r3 h3 ⊢
    refine ⟨R1, q3, _, _, rfl, rfl, r3 _ _ (r2 _ _ h1), h3, by rw [sizeLine_eq, List.length_append]; show _ + 1 ≤ _; omega, fun R2 n2 => ?_⟩
    have r4 := Same.new n2 (o := .lst (acc ++ cs ++ [.ref t]))
    have h4 := upd_same (H := H5) (a := R2) (o := .lst (acc ++ cs ++ [.ref t]))
    have S6 := ((r1.trans r2).trans r3).trans r4
    have ht6 := r4 _ _ (r3 _ _ ht)
    generalize upd H5 R2 (.lst (acc ++ cs ++ [.ref t])) = H6 at r4 h4 S6 ht6 ⊢
    obtain ⟨v, rest, ev, rv⟩ : ∃ v rest, acc ++ cs ++ [.ref t] = v :: rest ∧ RowA H6 v := by
      have al : ∀ v ∈ acc ++ cs ++ [V.ref t], RowA H6 v := fun v hv => by
        rcases List.mem_append.mp hv with hv | hv
        · rcases List.mem_append.mp hv with hv | hv
          · exact (ra v hv).same S6
          · exact (rc v hv).same (s2.trans S6)
        · rw [List.mem_singleton.mp hv]
          exact ⟨[Str.ofString "a"], ⟨t, rfl, ht6⟩, by decide +kernel, by decide⟩
      cases e : acc ++ cs ++ [V.ref t] with
      | nil =>
        have := congrArg List.length e
        rw [List.length_append] at this
        cases this
      | cons v r => exact ⟨v, r, rfl, al v (by rw [e]; exact .head _)⟩
    rw [ev] at h4
    refine ⟨_, _, _, _, rfl, rfl, SqL.of h4, atI_nat (j := 0) rfl, ?_⟩
    obtain ⟨w1, G1⟩ := rv.wd
    obtain ⟨b, rfl, hb, b7, bl⟩ := id G1
    have W6 := W2.keep S6
    have K6 := K2.trans (Keep.of S6)
    clear r1 r2 r3 r4 h1 h3 h4 ht ht6 ev rv ra rc hD hq2 hq
    refine gname_nx ?_
    dsimp only
    refine seq_of ?_
    refine ⟨by show 7 ≤ sizeLine; decide, fun N nN => ?_⟩
    have sN := Same.new nN (o := .lst [.str "a", .str "ab", .str "b", .str "c", .str "m", .str "n", .str "zz"])
    have hN : upd H6 N (.lst [.str "a", .str "ab", .str "b", .str "c", .str "m", .str "n", .str "zz"]) N = some (.lst (nextL.map V.str)) := upd_same
    have W7 := W6.keep sN
    have K7 := K6.trans (Keep.of sN)
    have hb7 := sN _ _ hb
    have NFr := W6.pn
    generalize upd H6 N (.lst [.str "a", .str "ab", .str "b", .str "c", .str "m", .str "n", .str "zz"]) = H7 at sN hN W7 K7 hb7 ⊢
    refine ⟨N, rfl, ⟨_, SqL.of hN⟩, fun E nE => ?_⟩
    refine lc_list (xs := nextL.map V.str) (fun i H' => Same H7 H' ∧ H' E = some (.lst (((nextL.take i).filter fun n => !decide (n ∈ w1)).map V.str))) ⟨Same.new nE, by rw [List.take_zero]; exact upd_same⟩ (fun i H' _ z => SqL.of (z.1 _ _ hN)) ?_ ?_
    · rintro i y H8 hy ⟨s8, hE⟩
      rw [List.getElem?_map] at hy
      obtain ⟨n, en, rfl⟩ := Option.map_eq_some_iff.mp hy
      have fl := List.length_filter_le (fun n => !decide (n ∈ w1)) (nextL.take i)
      have n7 : nextL.length = 7 := rfl
      rw [List.length_take] at fl
      refine ⟨rfl, _, rfl, _, rfl, b, _, rfl, .inr (SqT.of (s8 _ _ hb7)), rfl, flat_nmsX _, _, rfl, ?_⟩
      rw [if_pos rfl, inV_nmsX]
      by_cases z : n ∈ w1
      · rw [decide_eq_true z]
        refine iteF ?_
        refine ⟨s8, ?_⟩
        rw [filter_snocB en, if_neg (by rw [decide_eq_true z]; decide), List.append_nil]
        exact hE
      · rw [decide_eq_false z]
        refine iteT ?_
        refine ⟨_, rfl, _, hE, by rw [List.length_map, sizeLine_eq]; omega, same_mut s8 nE, ?_⟩
        rw [upd_same, filter_snocB en, if_pos (by rw [decide_eq_false z]; rfl), List.map_append]
        rfl
    rintro H8 ⟨s8, hE⟩
    rw [List.length_map, List.take_length] at hE
    have W8 := W7.keep s8
    have K8 := K7.trans (Keep.of s8)
    have hb8 := s8 _ _ hb7
    have Ep : E ≠ p := (ne_of_none W7.pn nE).symm
    have n7 : ∀ n ∈ nextL.filter fun n => !decide (n ∈ w1), n ∈ seven := fun n hn => next7 n (List.mem_filter.mp hn).1
    have l7 : (nextL.filter fun n => !decide (n ∈ w1)).length ≤ 7 := List.length_filter_le _ _
    generalize (nextL.filter fun n => !decide (n ∈ w1)) = ms at hE n7 l7
    refine gname_nx ?_
    dsimp only
    refine ⟨_, rfl, ?_⟩
    refine ⟨_, rfl, E, rfl, ⟨_, SqL.of hE⟩, fun F nF => ?_⟩
    have Fp : F ≠ p := (ne_of_none W8.pn nF).symm
    have sF := Same.new nF (o := .lst [])
    have Fc : F ≠ c := fun z => by
      have := W8.cs
      rw [← z, nF] at this
      cases this
    refine lc_list (xs := ms.map V.str) (fun i H' => ∃ a' g' us, PenAt H' p c ns a' g' ∧ Keep p H8 H' ∧ a ≤ a' ∧ a' ≤ a + i ∧ H' F = some (.lst ((us : List Str).map V.str)) ∧ (∀ n ∈ us, n ∈ ms) ∧ us.length ≤ i) ⟨a, g, [], W8.keep sF, Keep.of sF, Int.le_refl _, by omega, upd_same, fun n hn => (by cases hn), Nat.le_refl _⟩ (fun i H' _ z => by obtain ⟨_, _, _, _, K, _⟩ := z; exact SqL.of (K _ _ hE Ep)) ?_ ?_
    · rintro i y H9 hy ⟨a9, g9, us, W9, K9, la, ua, hF, um, ul⟩
      rw [List.getElem?_map] at hy
      obtain ⟨n, en, rfl⟩ := Option.map_eq_some_iff.mp hy
      have nm := List.mem_of_getElem? en
      have il := (List.getElem?_eq_some_iff.mp en).1
      refine ⟨rfl, _, rfl, p, c, ns, a9, g9, 5, rfl, by decide, by decide, W9, fun d a10 g10 H10 hp10 k10 d0 d1 l10 u10 => ?_⟩
      have W10 := W9.next l10 (by omega) hp10 k10
      have hF10 := k10 _ _ hF Fp
      refine ⟨_, _, rfl, rfl, _, rfl, ?_⟩
      by_cases z : 0 < d
      · rw [decide_eq_true z]
        refine iteT ?_
        refine ⟨_, rfl, _, hF10, by rw [List.length_map, sizeLine_eq]; omega, a10, g10, us ++ [n], W10.mut Fp Fc _, (K9.trans k10).mut nF _, by omega, by omega, by rw [upd_same, List.map_append]; rfl, fun m hm => ?_, by rw [List.length_append]; show _ + 1 ≤ _; omega⟩
        rcases List.mem_append.mp hm with hm | hm
        · exact um m hm
        · rw [List.mem_singleton.mp hm]; exact nm
      · rw [decide_eq_false z]
        refine iteF ?_
        exact ⟨a10, g10, us, W10, K9.trans k10, by omega, by omega, hF10, um, by omega⟩
    rintro H9 ⟨a9, g9, us, W9, K9, la9, ua9, hF, um, ul⟩
    rw [List.length_map] at ul ua9
    have G9 := (G1.pen W6 (Keep.of sN)).pen W7 (Keep.of s8)
    refine ⟨F, _, rfl, .inl ⟨SqL.of hF, fun r2 nr => ?_⟩⟩
    have sr := Same.new nr (o := .tup (us.map V.str))
    refine ⟨by show 2 ≤ sizeLine; decide, fun q9 nq9 => ?_⟩
    have sq := Same.new nq9 (o := .lst [.ref b, .ref r2])
    have SS := sr.trans sq
    have W11 := W9.keep SS
    exact k q9 _ _ w1 us a9 g9 _ W11.pn ((K8.trans K9).trans (Keep.of SS)) ((ne_of_none (sr _ _ W9.pn) nq9).symm) upd_same ((G9.pen W8 K9).same SS) ⟨r2, rfl, sq _ _ upd_same, fun n hn => n7 n (um n hn), by omega⟩ la9 (by omega)
end
end RR
set_option maxHeartbeats 4000000
namespace RR
open PySem PySem.Spec PyProof.Rows L2
local macro_rules | `(tactic| walk_at "hp") => `(tactic| first | assumption | exact upd_same | (refine hp_new ?_ (by assumption); walk_at "hp") | (refine hp_mut ?_ (by first | assumption | (apply Ne.symm; assumption)); walk_at "hp") | (refine Same.at (by assumption) ?_; walk_at "hp"))
local macro_rules | `(tactic| walk_at "same") => `(tactic| first | exact fun _ _ z => z | assumption | (refine same_new ?_ (by assumption); walk_at "same") | (refine L2.Same.trans ?_ (by assumption); walk_at "same"))
local macro_rules | `(tactic| walk_at "sq") => `(tactic| exact SqL.of (by walk_at "hp"))
local macro_rules | `(tactic| walk_at "sqT") => `(tactic| exact SqT.of (by walk_at "hp"))

open LamX
section
variable {P : Program} {w : World} {K : PySem.W.Frag} {mg : Str → Option Value} {base : Heap}
theorem g__law_mixed (T : TX K mg) : FnG P w K mg base CX0 3 T.f__law_mixed (spMixT) := by
  refine okG T.F__law_mixed sc__law_mixed (bd__law_mixed T.F__law_mixed) (fun vs H Q E h => ?_) (fun cdv A out s H vs Q E hr fr h => ?_)
  · obtain ⟨p, c, ns, a, g, l, ws, rfl, W, hl, lp, wl, ha, k⟩ := h
    rfl
  · obtain ⟨p, c, ns, a, g, l, ws, rfl, W, hl, lp, wl, ha, k⟩ := h
    refine ⟨_, (pss_cons (ps_set (i := 2) sc__law_mixed.nd rfl (Or.inr rfl) (pe_callTy call_list_of (by rfl) T.b_list (by decide +kernel) (pa_cons (pv 1) pa_nil)))
 (pss_one (ps_ret (pe_lc (own := [("_law_lap", 3)]) (g := (gName 3)) (tt := tYes) (by rfl) sc__law_mixed.nd (pi_range1 (by rfl) T.b_range (pa_cons (pe_callB (show CallR _ (.builtin "len") (rLenQ K) from call_len_seq) (by rfl) T.b_len PySem.boot_len (pa_cons (pv 2) pa_nil)) pa_nil)) (blkOk_by (own := [("_law_lap", 3)]) (N := N__law_mixed) (sc := defScope s__law_mixed) (by decide +kernel)) (fun _ _ _ _ _ => (pg_name (i := 3) sc__law_mixed.nd rfl (Or.inl rfl))) (fun _ _ _ _ _ => pts_nil) (fun _ _ _ _ _ => (show PE _ _ (tBM K "list" rPopAt (tVar 2) (tCons _ tNil)) from (pe_bm PySem.F.plainAttrs_list PySem.F.slot_list_pop PySem.F.type_list_pop mt_popAt (pv 2) (pa_cons (pe_callG (g__law_draw T) (hr.mono (by decide)) fr (by rfl) T.m__law_draw T.F__law_draw.kp pass0 (pa_cons (pv 0) (pa_cons (pe_callB (show CallR _ (.builtin "len") (rLenQ K) from call_len_seq) (by rfl) T.b_len PySem.boot_len (pa_cons (pv 2) pa_nil)) pa_nil))) pa_nil)))))))), ?_⟩
    have ml : (ws.map V.str).length = ws.length := List.length_map _
    refine ⟨_, rfl, l, _, rfl, .inl (SqL.of hl), fun L nL => ?_⟩
    have eL : upd H L (.lst (ws.map V.str)) L = some (.lst (ws.map V.str)) := upd_same
    have S1 := Same.new nL (o := .lst (ws.map V.str))
    generalize upd H L (.lst (ws.map V.str)) = H1 at eL S1 ⊢
    have nLp : L ≠ p := fun z => by subst z; rw [W.pn] at nL; cases nL
    have nLc : L ≠ c := fun z => by subst z; rw [W.cs] at nL; cases nL
    have W1 := W.keep S1
    refine ⟨_, rfl, _, _, rfl, .inl (SqL.of eL), (((ws.map V.str).length : Nat) : Int), rfl, by omega, by omega, fun D nD => ?_⟩
    have nDp : D ≠ p := fun z => by subst z; rw [W1.pn] at nD; cases nD
    have nDL : D ≠ L := fun z => by subst z; rw [eL] at nD; cases nD
    refine lc_range (lo := 0) (n := (((ws.map V.str).length : Nat) : Int).toNat) (fun i H' => ∃ rem acc a' g', PenAt H' p c ns a' g' ∧ Keep p H H' ∧ H' L = some (.lst (rem.map V.str)) ∧ rem.length + i = ws.length ∧ H' D = some (.lst (acc.map V.str)) ∧ acc.length = i ∧ (acc ++ rem).Perm ws ∧ a ≤ a' ∧ a' ≤ a + i)
      ⟨ws, [], a, g, W1.keep (Same.new nD), (Keep.of (S1.trans (Same.new nD))), hp_new eL nD, rfl, upd_same, rfl, .refl _, Int.le_refl _, by omega⟩ ?_ ?_
    · rintro i H' hi ⟨rem, acc, a1, g1, Wi, ki, hL, lr, hD, lac, pm, la, lb⟩
      refine ⟨rfl, _, rfl, .inl ⟨rfl, _, SqL.of hL⟩, _, rfl, _, rfl, _, _, rfl, .inl (SqL.of hL), ?_⟩
      rw [List.length_map]
      refine ⟨p, c, ns, a1, g1, _, rfl, by omega, by omega, Wi, fun d a2 g2 H2 hp2 k2 d0 d1 l2 u2 => ?_⟩
      have hL2 := k2 _ _ hL nLp
      have hD2 := k2 _ _ hD nDp
      have W2 := Wi.next l2 (by omega) hp2 k2
      obtain ⟨kk, rfl⟩ := Int.eq_ofNat_of_zero_le d0
      have hk : kk < rem.length := by omega
      refine ⟨L, rem.map V.str, (kk : Int), kk, .str rem[kk], rfl, rfl, hL2, by omega, by omega, ?_, ?_, ?_⟩
      · rw [List.length_map]
        unfold seqIndex?
        simp
        omega
      · rw [List.getElem?_map, List.getElem?_eq_getElem hk]; rfl
      have e3 : (rem.map V.str).eraseIdx kk = (rem.eraseIdx kk).map V.str := map_eraseX _ _ _
      rw [e3]
      have hD3 := hp_mut (o := .lst ((rem.eraseIdx kk).map V.str)) hD2 nDL
      refine ⟨acc.map V.str, hD3, by rw [List.length_map, sizeLine_eq]; omega, rem.eraseIdx kk, acc ++ [rem[kk]], a2, g2, ?_, ?_, ?_, ?_, ?_, ?_, ?_, by omega, by omega⟩
      · exact ⟨hp_mut (hp_mut W2.pn nLp.symm) nDp.symm, hp_mut (hp_mut W2.cs nLc.symm) (fun z => by subst z; rw [W1.cs] at nD; cases nD), W2.la, W2.lb, W2.ln⟩
      · intro b o e n
        have e1 : b ≠ L := ne_of_none e nL
        have e2 : b ≠ D := ne_of_none (S1 _ _ e) nD
        exact hp_mut (hp_mut ((ki.trans k2) _ _ e n) e1) e2
      · exact hp_mut upd_same nDL.symm
      · rw [List.length_eraseIdx, if_pos hk]; omega
      · rw [upd_same, List.map_append]; rfl
      · rw [List.length_append]; show acc.length + 1 = i + 1; omega
      · refine List.Perm.trans ?_ pm
        rw [List.append_assoc]
        refine List.Perm.append_left _ ?_
        exact (erase_perm (List.getElem?_eq_getElem hk)).symm
    rintro H' ⟨rem, acc, a1, g1, Wi, ki, hL, lr, hD, lac, pm, la, lb⟩
    have r0 : rem = [] := List.eq_nil_of_length_eq_zero (by omega)
    rw [r0, List.append_nil] at pm
    exact k D acc a1 g1 H' Wi.pn ki (S1.free nD) hD pm la (by omega)
end
end RR
set_option maxHeartbeats 4000000
namespace RR
open PySem PySem.Spec PyProof.Rows L2
local macro_rules | `(tactic| walk_at "hp") => `(tactic| first | assumption | exact upd_same | (refine hp_new ?_ (by assumption); walk_at "hp") | (refine hp_mut ?_ (by first | assumption | (apply Ne.symm; assumption)); walk_at "hp") | (refine Same.at (by assumption) ?_; walk_at "hp"))
local macro_rules | `(tactic| walk_at "same") => `(tactic| first | exact fun _ _ z => z | assumption | (refine same_new ?_ (by assumption); walk_at "same") | (refine L2.Same.trans ?_ (by assumption); walk_at "same"))
local macro_rules | `(tactic| walk_at "sq") => `(tactic| exact SqL.of (by walk_at "hp"))
local macro_rules | `(tactic| walk_at "sqT") => `(tactic| exact SqT.of (by walk_at "hp"))

open LamX
section
variable {P : Program} {w : World} {K : PySem.W.Frag} {mg : Str → Option Value} {base : Heap}
theorem g__law_tied (T : TX K mg) : FnG P w K mg base CX0 3 T.f__law_tied (spTiedT) := by
  refine okG T.F__law_tied sc__law_tied (bd__law_tied T.F__law_tied) (fun vs H Q E h => ?_) (fun cdv A out s H vs Q E hr fr h => ?_)
  · obtain ⟨p, c, ns, a, g, l, ws, rfl, W, hl, lp, w1, wl, ha, k⟩ := h
    rfl
  · obtain ⟨p, c, ns, a, g, l, ws, rfl, W, hl, lp, w1, wl, ha, k⟩ := h
    refine ⟨_, (pss_cons (ps_setLc (i := 2) (own := [("_law_name", 3)]) (g := (gName 3)) (tt := tYes) (by rfl) sc__law_tied.nd rfl rfl (sw_true rfl rfl rfl (by decide +kernel)) (pi_list (pv 1)) (blkOk_by (own := [("_law_name", 3)]) (N := N__law_tied) (sc := defScope s__law_tied) (by decide +kernel)) (fun _ _ _ _ _ => (pg_name (i := 3) sc__law_tied.nd rfl (Or.inl rfl))) (fun _ _ _ _ _ => pts_nil) (fun _ _ _ _ _ => (pe_tup (pa_cons pe_str (pa_cons (pv 3) pa_nil)))))
 (pss_cons (ps_while PassesOwn.never (pt_cmpR op_gt (pe_callB call_len_seq (by rfl) T.b_len PySem.boot_len (pa_cons (pv 2) pa_nil)) pe_int (nomark _)) (pss_cons (ps_set (i := 4) sc__law_tied.nd rfl (Or.inl rfl) (pe_callG (g__law_draw T) (hr.mono (by decide)) fr (by rfl) T.m__law_draw T.F__law_draw.kp pass0 (pa_cons (pv 0) (pa_cons (pe_op op_sub (pe_callB call_len_seq (by rfl) T.b_len PySem.boot_len (pa_cons (pv 2) pa_nil)) pe_int) pa_nil))))
 (pss_cons (ps_set (i := 5) sc__law_tied.nd rfl (Or.inl rfl) (pe_tup (pa_cons (pe_ix ix_list (pe_lst (pa_cons pe_str (pa_cons pe_str pa_nil))) (pe_callG (g__law_draw T) (hr.mono (by decide)) fr (by rfl) T.m__law_draw T.F__law_draw.kp pass0 (pa_cons (pv 0) (pa_cons pe_int pa_nil))) (fun _ _ => rfl)) (pa_cons (pe_ix ix_list (pv 2) (pv 4) (fun _ _ => rfl)) (pa_cons (pe_ix ix_list (pv 2) (pe_op op_add (pv 4) pe_int) (fun _ _ => rfl)) pa_nil)))))
 (pss_one (ps_set (i := 2) sc__law_tied.nd rfl (Or.inl rfl) (pe_op op_cat (pe_op op_cat (pe_slice sl_list (pv 2) po_none (po_some (pv 4))) (pe_lst (pa_cons (pv 5) pa_nil))) (pe_slice sl_list (pv 2) (po_some (pe_op op_add (pv 4) pe_int)) po_none)))))))
 (pss_one (ps_ret (pe_ix ix_list (pv 2) pe_int (fun _ _ => rfl)))))), ?_⟩
    have ml : (ws.map V.str).length = ws.length := List.length_map _
    refine ⟨_, rfl, l, rfl, ⟨_, SqL.of hl⟩, fun D nD => ?_⟩
    have Dp : D ≠ p := fun z => by subst z; rw [W.pn] at nD; cases nD
    refine lc_list (xs := ws.map V.str) (fun i H' => Same H H' ∧ ∃ xs, H' D = some (.lst xs) ∧ Paired (fun v t => TrV H' t v) xs ((ws.take i).map Tr.leaf)) ⟨Same.new nD, [], upd_same, by rw [List.take_zero]; exact .nil⟩ (fun i H' _ z => SqL.of (z.1 _ _ hl)) ?_ ?_
    · rintro i y H1 hy ⟨s1, xs, hD, px⟩
      rw [List.getElem?_map] at hy
      obtain ⟨n, en, rfl⟩ := Option.map_eq_some_iff.mp hy
      have pl := Paired.length px
      rw [List.length_map, List.length_take] at pl
      refine ⟨rfl, _, rfl, by show 2 ≤ sizeLine; decide, fun t nt => ?_⟩
      have hD2 := hp_new (o := .tup [.str "link", .str n]) hD nt
      refine ⟨xs, hD2, by rw [sizeLine_eq]; omega, same_mut (s1.trans (Same.new nt)) nD, _, upd_same, ?_⟩
      rw [List.take_add_one, en, Option.toList_some, List.map_append]
      have st2 : StT H1 (upd (upd H1 t (.tup [.str "link", .str n])) D (.lst (xs ++ [.ref t]))) := ((StT.refl _).new nt).mut hD2 (fun _ z => by cases z)
      exact Paired.snoc (Paired.mono (fun _ _ hh => hh.st st2) px) ⟨t, rfl, hp_mut upd_same (ne_of_none hD nt).symm⟩
    rintro H1 ⟨s1, xs, hD, px⟩
    rw [ml, List.take_length] at px
    refine gname_nx ?_
    dsimp only
    refine seq_of ?_
    refine ⟨fun m σ H' => ∃ b3 b4 b5 q xs ts a' g', σ = [some (.ref p), some (.ref l), some (.ref q), b3, b4, b5] ∧ H' q = some (.lst xs) ∧ Paired (fun v t => TrV H' t v) xs ts ∧ nmsTs ts = ws ∧ 1 ≤ ts.length ∧ PenAt H' p c ns a' g' ∧ Keep p H H' ∧ q ≠ p ∧ a ≤ a' ∧ a' + 2 * ts.length ≤ a + 2 * ws.length ∧ m = ts.length, ⟨_, _, _, _, D, xs, ws.map Tr.leaf, a, g, rfl, hD, px, nmsTs_leaf ws, by rw [List.length_map]; exact w1, W.keep s1, Keep.of s1, Dp, Int.le_refl _, by rw [List.length_map]; omega, rfl⟩, ?_⟩
    rintro m σ H2 ⟨b3, b4, b5, q, xs, ts, a2, g2, rfl, hq, px, en, t1, W2, K2, qp, la, lb, em⟩
    have pl := Paired.length px
    have tl := tsum_len ts
    rw [en] at tl
    refine ⟨_, rfl, _, _, rfl, .inl (SqL.of hq), _, _, rfl, rfl, _, rfl, ?_⟩
    by_cases z : 1 < xs.length
    · rw [decide_eq_true (show (1 : Int) < ((xs.length : Nat) : Int) by omega)]
      refine iteT ?_
      refine ⟨_, fun σ' H' h => h, ?_⟩
      refine ⟨_, rfl, _, rfl, _, _, rfl, .inl (SqL.of hq), _, _, rfl, rfl, p, c, ns, a2, g2, _, rfl, by omega, by omega, W2, fun d a3 g3 H3 hp3 k3 d0 d1 l3 u3 => ?_⟩
      have W3 := W2.next l3 (by omega) hp3 k3
      have hq3 := k3 _ _ hq qp
      have px3 : Paired (fun v t => TrV H3 t v) xs ts := Paired.mono (fun _ _ hh => hh.st (StT.pen W2 k3)) px
      obtain ⟨kk, rfl⟩ := Int.eq_ofNat_of_zero_le d0
      have kl : kk + 1 < xs.length := by omega
      refine ⟨by show 2 ≤ sizeLine; decide, fun z0 nz => ⟨_, rfl, p, c, ns, a3, g3, 2, rfl, by decide, by decide, W3.keep (Same.new nz), fun e a4 g4 H4 hp4 k4 e0 e1 l4 u4 => ?_⟩⟩
      have zp : z0 ≠ p := (ne_of_none W3.pn nz).symm
      have K4 : Keep p H3 H4 := (Keep.of (Same.new nz (o := .lst [.str "row", .str "bunch"]))).trans k4
      have W4 := (W3.keep (Same.new nz (o := .lst [.str "row", .str "bunch"]))).next l4 (by omega) hp4 k4
      have hz4 := k4 _ _ (upd_same (H := H3) (a := z0) (o := .lst [.str "row", .str "bunch"])) zp
      have hq4 := K4 _ _ hq3 qp
      have px4 : Paired (fun v t => TrV H4 t v) xs ts := Paired.mono (fun _ _ hh => hh.st (StT.pen W3 K4)) px3
      obtain ⟨x1, ex1⟩ : ∃ x1, xs[kk]? = some x1 := ⟨_, List.getElem?_eq_getElem (by omega)⟩
      obtain ⟨x2, ex2⟩ : ∃ x2, xs[kk + 1]? = some x2 := ⟨_, List.getElem?_eq_getElem (by omega)⟩
      obtain ⟨t1, et1, tv1⟩ := pair_at px4 ex1
      obtain ⟨t2, et2, tv2⟩ := pair_at px4 ex2
      obtain ⟨r, er⟩ : ∃ r : Bool, atI [V.str "row", V.str "bunch"] e = some (.str (kn r)) := by
        rcases (show e = 0 ∨ e = 1 by omega) with rfl | rfl
        · exact ⟨true, rfl⟩
        · exact ⟨false, rfl⟩
      refine ⟨_, _, _, _, rfl, rfl, SqL.of hz4, er, _, rfl, _, rfl, _, _, _, _, rfl, rfl, SqL.of hq4, atI_nat (j := kk) ex1, _, rfl, _, rfl, _, _, rfl, rfl, _, _, _, _, rfl, rfl, SqL.of hq4, atI_nat (j := kk + 1) ex2, by show 3 ≤ sizeLine; decide, fun t nt => ?_⟩
      have ht5 := upd_same (H := H4) (a := t) (o := .tup [.str (kn r), x1, x2])
      have s5 := Same.new nt (o := .tup [.str (kn r), x1, x2])
      have K5 := K4.trans (Keep.of s5)
      have W5 := W4.keep s5
      generalize upd H4 t (.tup [.str (kn r), x1, x2]) = H5 at ht5 s5 K5 W5 ⊢
      have hq5 := s5 _ _ hq4
      refine gname_nx ?_
      dsimp only
      refine ⟨_, rfl, _, rfl, _, rfl, q, _, rfl, SqL.of hq5, fun L1 n1 => ?_⟩
      refine ⟨_, rfl, by show 1 ≤ sizeLine; decide, fun L2 n2 => ?_⟩
      have cl1 := cutV_length xs none (some (kk : Int))
      have cl2 := cutV_length xs (some ((kk : Int) + 2)) none
      refine ⟨L1, L2, _, _, rfl, rfl, hp_new upd_same n2, upd_same, by rw [sizeLine_eq]; show _ + 1 ≤ _; omega, fun L3 n3 => ?_⟩
      have b1 := Same.new n1 (o := .lst (cutV xs none (some (kk : Int))))
      have b2 := b1.trans (Same.new n2 (o := .lst [.ref t]))
      have b3 := b2.trans (Same.new n3 (o := .lst (cutV xs none (some (kk : Int)) ++ [.ref t])))
      refine ⟨_, rfl, _, rfl, _, _, rfl, rfl, _, rfl, q, _, rfl, SqL.of (b3 _ _ hq5), fun L4 n4 => ?_⟩
      refine ⟨L3, L4, _, _, rfl, rfl, hp_new upd_same n4, upd_same, by rw [List.length_append, sizeLine_eq]; show _ + 1 + _ ≤ _; omega, fun L5 n5 => ?_⟩
      have b4 := b3.trans (Same.new n4 (o := .lst (cutV xs (some ((kk : Int) + 2)) none)))
      have b5 := b4.trans (Same.new n5 (o := .lst (cutV xs none (some (kk : Int)) ++ [.ref t] ++ cutV xs (some ((kk : Int) + 2)) none)))
      have h5 := upd_same (H := upd (upd (upd (upd H5 L1 (.lst (cutV xs none (some (kk : Int))))) L2 (.lst [.ref t])) L3 (.lst (cutV xs none (some (kk : Int)) ++ [.ref t]))) L4 (.lst (cutV xs (some ((kk : Int) + 2)) none))) (a := L5) (o := .lst (cutV xs none (some (kk : Int)) ++ [.ref t] ++ cutV xs (some ((kk : Int) + 2)) none))
      have p5 : L5 ≠ p := (ne_of_none (b4 _ _ W5.pn) n5).symm
      generalize upd (upd (upd (upd (upd H5 L1 (.lst (cutV xs none (some (kk : Int))))) L2 (.lst [.ref t])) L3 (.lst (cutV xs none (some (kk : Int)) ++ [.ref t]))) L4 (.lst (cutV xs (some ((kk : Int) + 2)) none))) L5 (.lst (cutV xs none (some (kk : Int)) ++ [.ref t] ++ cutV xs (some ((kk : Int) + 2)) none)) = H6 at h5 b5 ⊢
      have s46 := s5.trans b5
      have px6 : Paired (fun v t => TrV H6 t v) xs ts := Paired.mono (fun _ _ hh => hh.st (StT.same s46)) px4
      rw [(mid_cut xs kk).1, show ((kk : Int) + 2) = ((kk + 2 : Nat) : Int) from by push_cast; rfl, (mid_cut xs (kk + 2)).2] at h5
      have tw : TrV H6 (.two r t1 t2) (.ref t) := ⟨t, x1, x2, rfl, b5 _ _ ht5, tv1.st (StT.same s46), tv2.st (StT.same s46)⟩
      have nl : (ts.take kk ++ [Tr.two r t1 t2] ++ ts.drop (kk + 2)).length + 1 = ts.length := by
        rw [List.length_append, List.length_append, List.length_take, List.length_drop]
        show min kk ts.length + 1 + (ts.length - (kk + 2)) + 1 = ts.length
        omega
      exact ⟨_, by rw [em, ← nl]; exact Nat.lt_succ_self _, _, _, _, L5, _, ts.take kk ++ [.two r t1 t2] ++ ts.drop (kk + 2), a4, g4, rfl, h5, pair_app (Paired.snoc (pair_take px6 kk) tw) (pair_drop px6 (kk + 2)), (nmsTs_join et1 et2).trans en, by omega, W5.keep b5, (K2.trans k3).trans (K5.trans (Keep.of b5)), p5, by omega, by omega, rfl⟩
    · rw [decide_eq_false (show ¬ (1 : Int) < ((xs.length : Nat) : Int) by omega)]
      refine iteF ?_
      match ts, px, t1, pl, en with
      | [t], .cons hv .nil, _, _, en =>
        refine ⟨_, rfl, _, _, _, _, rfl, rfl, SqL.of hq, atI_nat (j := 0) rfl, ?_⟩
        refine k _ t a2 g2 H2 W2.pn K2 hv ?_ la ?_
        · rw [← en]; unfold nmsTs; simp
        · omega
      | t :: t' :: r, px, _, pl, _ => exact (z (by rw [pl]; simp)).elim
end
end RR
set_option maxHeartbeats 4000000
namespace RR
open PySem PySem.Spec PyProof.Rows L2
local macro_rules | `(tactic| walk_at "hp") => `(tactic| first | assumption | exact upd_same | (refine hp_new ?_ (by assumption); walk_at "hp") | (refine hp_mut ?_ (by first | assumption | (apply Ne.symm; assumption)); walk_at "hp") | (refine Same.at (by assumption) ?_; walk_at "hp"))
local macro_rules | `(tactic| walk_at "same") => `(tactic| first | exact fun _ _ z => z | assumption | (refine same_new ?_ (by assumption); walk_at "same") | (refine L2.Same.trans ?_ (by assumption); walk_at "same"))
local macro_rules | `(tactic| walk_at "sq") => `(tactic| exact SqL.of (by walk_at "hp"))
local macro_rules | `(tactic| walk_at "sqT") => `(tactic| exact SqT.of (by walk_at "hp"))

open LamX
section
variable {P : Program} {w : World} {K : PySem.W.Frag} {mg : Str → Option Value} {base : Heap}
theorem ok__law_laid (T : TX K mg) (d : Nat) (hL : FnR P w K mg base CX0 (d + 1) T.f__law_laid (spLaidP d)) : FnOk P w K mg base CX0 (d + 2) T.f__law_laid T.d__law_laid ["_law_tree", "_law_u", "_law_v", "_law_first"] (spLaidP (d + 1)) := by
  refine T.F__law_laid.ok sc__law_laid (fun vs H Q E h => ?_) (fun cdv A out s H vs Q E hr h => ?_)
  · obtain ⟨x, t, u, v, f, rfl, tv, td, ok, u0, u9, v0, v9, f0, fl, k⟩ := h
    rfl
  · obtain ⟨x, t, u, v, f, rfl, tv, td, ok, u0, u9, v0, v9, f0, fl, k⟩ := h
    refine ⟨_, (pss_cons (ps_if (pt_cmpR op_eq (pe_ix ix_tup (pv 0) pe_int (fun _ _ => rfl)) pe_str (nomark _)) (pss_one (ps_ret (pe_lst (pa_cons (pe_lst (pa_cons (pe_tup (pa_cons (pe_ix ix_tup (pv 0) pe_int (fun _ _ => rfl)) (pa_cons (pv 1) (pa_cons (pv 2) pa_nil)))) pa_nil)) (pa_cons (pv 3) pa_nil))))) pss_nil)
 (pss_cons (ps_if (pt_cmpR op_eq (pe_ix ix_tup (pv 0) pe_int (fun _ _ => rfl)) pe_str (nomark _)) (pss_cons (ps_asg (pe_callR hL (hr.mono (by omega)) (by rfl) T.m__law_laid T.F__law_laid.kp pass0 (pa_cons (pe_ix ix_tup (pv 0) pe_int (fun _ _ => rfl)) (pa_cons (pv 1) (pa_cons (pv 2) (pa_cons (pv 3) pa_nil))))) (pg_lst (by rfl) (pgs_cons (pg_name (i := 4) sc__law_laid.nd rfl (Or.inl rfl)) (pgs_cons (pg_name (i := 3) sc__law_laid.nd rfl (Or.inl rfl)) pgs_nil))))
 (pss_cons (ps_asg (pe_callR hL (hr.mono (by omega)) (by rfl) T.m__law_laid T.F__law_laid.kp pass0 (pa_cons (pe_ix ix_tup (pv 0) pe_int (fun _ _ => rfl)) (pa_cons (pv 1) (pa_cons (pv 2) (pa_cons (pv 3) pa_nil))))) (pg_lst (by rfl) (pgs_cons (pg_name (i := 5) sc__law_laid.nd rfl (Or.inl rfl)) (pgs_cons (pg_name (i := 3) sc__law_laid.nd rfl (Or.inl rfl)) pgs_nil))))
 (pss_one (ps_ret (pe_lst (pa_cons (pe_op op_cat (pv 4) (pv 5)) (pa_cons (pv 3) pa_nil))))))) pss_nil)
 (pss_cons (ps_set (i := 6) sc__law_laid.nd rfl (Or.inl rfl) (pv 3))
 (pss_cons (ps_asg (pe_callR hL (hr.mono (by omega)) (by rfl) T.m__law_laid T.F__law_laid.kp pass0 (pa_cons (pe_ix ix_tup (pv 0) pe_int (fun _ _ => rfl)) (pa_cons (pv 1) (pa_cons (pv 6) (pa_cons (pe_op op_add (pv 3) pe_int) pa_nil))))) (pg_lst (by rfl) (pgs_cons (pg_name (i := 4) sc__law_laid.nd rfl (Or.inl rfl)) (pgs_cons (pg_name (i := 3) sc__law_laid.nd rfl (Or.inl rfl)) pgs_nil))))
 (pss_cons (ps_asg (pe_callR hL (hr.mono (by omega)) (by rfl) T.m__law_laid T.F__law_laid.kp pass0 (pa_cons (pe_ix ix_tup (pv 0) pe_int (fun _ _ => rfl)) (pa_cons (pv 6) (pa_cons (pv 2) (pa_cons (pv 3) pa_nil))))) (pg_lst (by rfl) (pgs_cons (pg_name (i := 5) sc__law_laid.nd rfl (Or.inl rfl)) (pgs_cons (pg_name (i := 3) sc__law_laid.nd rfl (Or.inl rfl)) pgs_nil))))
 (pss_one (ps_ret (pe_lst (pa_cons (pe_op op_cat (pv 4) (pv 5)) (pa_cons (pv 3) pa_nil)))))))))), ?_⟩
    cases t with
    | leaf n =>
      obtain ⟨q, rfl, hq⟩ := tv
      refine ⟨_, rfl, _, _, _, _, rfl, rfl, SqT.of hq, rfl, rfl, _, rfl, ?_⟩
      rw [decide_eq_true rfl]
      refine iteT ?_
      refine ⟨_, rfl, _, _, _, _, rfl, rfl, SqT.of hq, rfl, _, rfl, _, rfl, by show 3 ≤ sizeLine; decide, fun r1 n1 => ⟨by show 1 ≤ sizeLine; decide, fun r2 n2 => ⟨_, rfl, by show 2 ≤ sizeLine; decide, fun r3 n3 => ?_⟩⟩⟩
      have S2 := (Same.new n1 (o := .tup [.str n, .int u, .int v])).trans (Same.new n2 (o := .lst [.ref r1]))
      refine k r3 r2 f [.ref r1] [(n, u, v)] _ (S2.trans (Same.new n3)) (S2.free n3) ((Same.new n1 (o := .tup [.str n, .int u, .int v])).free n2) upd_same (hp_new upd_same n3) (.cons ⟨r1, rfl, hp_new (hp_new upd_same n2) n3⟩ .nil) (fun kk hk => ?_) rfl (Int.le_refl _) (by have := Tr.one (.leaf n); omega)
      rw [List.mem_singleton.mp hk]
      exact ⟨ok n (.head _), ⟨u0, u9⟩, ⟨v0, v9⟩⟩
    | two r t1 t2 =>
      obtain ⟨q, y1, y2, rfl, hq, tv1, tv2⟩ := tv
      rw [Tr.dep] at td
      rw [Tr.nms, List.length_append] at fl k
      have l1 := Tr.one t1
      have l2 := Tr.one t2
      have ok1 : ∀ n ∈ t1.nms, PP n := fun n hn => ok n (List.mem_append_left _ hn)
      have ok2 : ∀ n ∈ t2.nms, PP n := fun n hn => ok n (List.mem_append_right _ hn)
      refine ⟨_, rfl, _, _, _, _, rfl, rfl, SqT.of hq, rfl, rfl, _, rfl, ?_⟩
      rw [decide_eq_false (show ¬ V.str (kn r) = V.str (Str.ofString "link") from by cases r <;> decide +kernel)]
      refine iteF ?_
      refine ⟨_, rfl, _, _, _, _, rfl, rfl, SqT.of hq, rfl, rfl, _, rfl, ?_⟩
      cases r
      · rw [decide_eq_true (show V.str (kn false) = V.str (Str.ofString "bunch") from rfl)]
        refine iteT ?_
        refine ⟨_, rfl, _, _, _, _, rfl, rfl, SqT.of hq, rfl, _, rfl, _, rfl, _, rfl, y1, t1, u, v, f, rfl, tv1, by omega, ok1, u0, u9, v0, v9, f0, by omega, fun q1 la f1 xs1 ls1 H1 s1 nq1 nl1 hq1 hl1 tl1 lk1 ll1 g0 g1 => ?_⟩
        refine ⟨q1, _, rfl, SqL.of hq1, rfl, _, _, rfl, _, _, rfl, rfl, ?_⟩
        refine ⟨_, rfl, _, _, _, _, rfl, rfl, SqT.of (s1 _ _ hq), rfl, _, rfl, _, rfl, _, rfl, y2, t2, u, v, f1, rfl, tv2.st (StT.same s1), by omega, ok2, u0, u9, v0, v9, by omega, by omega, fun q2 lb f2 xs2 ls2 H2 s2 nq2 nl2 hq2 hl2 tl2 lk2 ll2 g2 g3 => ?_⟩
        refine ⟨q2, _, rfl, SqL.of hq2, rfl, _, _, rfl, _, _, rfl, rfl, ?_⟩
        have x1 := tl1.len
        have x2 := tl2.len
        refine ⟨_, rfl, _, rfl, la, lb, _, _, rfl, rfl, s2 _ _ hl1, hl2, by rw [sizeLine_eq]; omega, fun L nL => ⟨_, rfl, by show 2 ≤ sizeLine; decide, fun R nR => ?_⟩⟩
        have e1 := Same.new nL (o := .lst (xs1 ++ xs2))
        have e2 := e1.trans (Same.new nR (o := .lst [.ref L, .int f2]))
        exact k R L f2 (xs1 ++ xs2) (ls1 ++ ls2) _ ((s1.trans s2).trans e2) (((s1.trans s2).trans e1).free nR) ((s1.trans s2).free nL) upd_same (hp_new upd_same nR) (pair_app (tl1.st (StT.same (s2.trans e2))) (tl2.st (StT.same e2))) (fun kk hk => (List.mem_append.mp hk).elim (lk1 kk) (lk2 kk)) (by rw [List.length_append]; omega) (by omega) (by omega)
      · rw [decide_eq_false (show ¬ V.str (kn true) = V.str (Str.ofString "bunch") from by decide +kernel)]
        refine iteF ?_
        refine ⟨_, rfl, ?_⟩
        refine ⟨_, rfl, _, _, _, _, rfl, rfl, SqT.of hq, rfl, _, rfl, _, rfl, _, rfl, _, _, rfl, rfl, y1, t1, u, f, f + 1, rfl, tv1, by omega, ok1, u0, u9, f0, by omega, by omega, by omega, fun q1 la f1 xs1 ls1 H1 s1 nq1 nl1 hq1 hl1 tl1 lk1 ll1 g0 g1 => ?_⟩
        refine ⟨q1, _, rfl, SqL.of hq1, rfl, _, _, rfl, _, _, rfl, rfl, ?_⟩
        refine ⟨_, rfl, _, _, _, _, rfl, rfl, SqT.of (s1 _ _ hq), rfl, _, rfl, _, rfl, _, rfl, y2, t2, f, v, f1, rfl, tv2.st (StT.same s1), by omega, ok2, f0, by omega, v0, v9, by omega, by omega, fun q2 lb f2 xs2 ls2 H2 s2 nq2 nl2 hq2 hl2 tl2 lk2 ll2 g2 g3 => ?_⟩
        refine ⟨q2, _, rfl, SqL.of hq2, rfl, _, _, rfl, _, _, rfl, rfl, ?_⟩
        have x1 := tl1.len
        have x2 := tl2.len
        refine ⟨_, rfl, _, rfl, la, lb, _, _, rfl, rfl, s2 _ _ hl1, hl2, by rw [sizeLine_eq]; omega, fun L nL => ⟨_, rfl, by show 2 ≤ sizeLine; decide, fun R nR => ?_⟩⟩
        have e1 := Same.new nL (o := .lst (xs1 ++ xs2))
        have e2 := e1.trans (Same.new nR (o := .lst [.ref L, .int f2]))
        exact k R L f2 (xs1 ++ xs2) (ls1 ++ ls2) _ ((s1.trans s2).trans e2) (((s1.trans s2).trans e1).free nR) ((s1.trans s2).free nL) upd_same (hp_new upd_same nR) (pair_app (tl1.st (StT.same (s2.trans e2))) (tl2.st (StT.same e2))) (fun kk hk => (List.mem_append.mp hk).elim (lk1 kk) (lk2 kk)) (by rw [List.length_append]; omega) (by omega) (by omega)
theorem r__law_laid (T : TX K mg) : FnR P w K mg base CX0 16 T.f__law_laid (spLaidP 14) := by
  have h0 : FnR P w K mg base CX0 (0 + 1) T.f__law_laid (spLaidP 0) := fun A out s H us vs Q E _ _ _ z => by
    obtain ⟨x, t, u, v, f, _, _, td, _⟩ := z
    exact absurd td (Nat.not_lt_zero _)
  have h : ∀ d : Nat, FnR P w K mg base CX0 (d + 1) T.f__law_laid (spLaidP d) := fun d => by
    induction d with
    | zero => exact h0
    | succ d ih => exact (rawAll (ok__law_laid T d ih) (bd__law_laid T.F__law_laid)).mono (by omega)
  exact (h 14).mono (by decide)
end
end RR
set_option maxHeartbeats 4000000
namespace RR
open PySem PySem.Spec PyProof.Rows L2
local macro_rules | `(tactic| walk_at "hp") => `(tactic| first | assumption | exact upd_same | (refine hp_new ?_ (by assumption); walk_at "hp") | (refine hp_mut ?_ (by first | assumption | (apply Ne.symm; assumption)); walk_at "hp") | (refine Same.at (by assumption) ?_; walk_at "hp"))
local macro_rules | `(tactic| walk_at "same") => `(tactic| first | exact fun _ _ z => z | assumption | (refine same_new ?_ (by assumption); walk_at "same") | (refine L2.Same.trans ?_ (by assumption); walk_at "same"))
local macro_rules | `(tactic| walk_at "sq") => `(tactic| exact SqL.of (by walk_at "hp"))
local macro_rules | `(tactic| walk_at "sqT") => `(tactic| exact SqT.of (by walk_at "hp"))

open LamX
section
variable {P : Program} {w : World} {K : PySem.W.Frag} {mg : Str → Option Value} {base : Heap}
theorem g__law_net (T : TX K mg) : FnG P w K mg base CX0 3 T.f__law_net (spNetP) := by
  refine okG T.F__law_net sc__law_net (bd__law_net T.F__law_net) (fun vs H Q E h => ?_) (fun cdv A out s H vs Q E hr fr h => ?_)
  · obtain ⟨p, c, ns, a, g, l, ws, rfl, W, hl, lp, wl, ok, ha, k⟩ := h
    rfl
  · obtain ⟨p, c, ns, a, g, l, ws, rfl, W, hl, lp, wl, ok, ha, k⟩ := h
    refine ⟨_, (pss_cons (ps_set (i := 2) sc__law_net.nd rfl (Or.inl rfl) (pe_lst (pa_cons (pe_lst (pa_cons (pe_tup (pa_cons pe_int (pa_cons pe_int pa_nil))) (pa_cons (pe_tup (pa_cons pe_int (pa_cons pe_int pa_nil))) (pa_cons (pe_tup (pa_cons pe_int (pa_cons pe_int pa_nil))) (pa_cons (pe_tup (pa_cons pe_int (pa_cons pe_int pa_nil))) (pa_cons (pe_tup (pa_cons pe_int (pa_cons pe_int pa_nil))) pa_nil)))))) (pa_cons (pe_lst (pa_cons (pe_tup (pa_cons pe_int (pa_cons pe_int pa_nil))) (pa_cons (pe_tup (pa_cons pe_int (pa_cons pe_int pa_nil))) (pa_cons (pe_tup (pa_cons pe_int (pa_cons pe_int pa_nil))) (pa_cons (pe_tup (pa_cons pe_int (pa_cons pe_int pa_nil))) (pa_cons (pe_tup (pa_cons pe_int (pa_cons pe_int pa_nil))) pa_nil)))))) (pa_cons (pe_lst pa_nil) pa_nil)))))
 (pss_cons (ps_set (i := 3) sc__law_net.nd rfl (Or.inl rfl) (pe_ix ix_list (pv 2) (pe_callG (g__law_draw T) (hr.mono (by decide)) fr (by rfl) T.m__law_draw T.F__law_draw.kp pass0 (pa_cons (pv 0) (pa_cons pe_int pa_nil))) (fun _ _ => rfl)))
 (pss_cons (ps_set (i := 4) sc__law_net.nd rfl (Or.inl rfl) (pe_lst pa_nil))
 (pss_cons (ps_for PassesOwn.never rfl (pi_enum (by rfl) T.b_enumerate (pa_cons (pv 1) pa_nil)) (pg_tup (by rfl) (pgs_cons (pg_name (i := 5) sc__law_net.nd rfl (Or.inl rfl)) (pgs_cons (pg_name (i := 6) sc__law_net.nd rfl (Or.inl rfl)) pgs_nil)))
 (pss_cons (ps_par (i := 7) (j := 8) (by rfl) sc__law_net.nd rfl rfl (by decide) rfl rfl (pa_cons (pe_callG (g__law_draw T) (hr.mono (by decide)) fr (by rfl) T.m__law_draw T.F__law_draw.kp pass0 (pa_cons (pv 0) (pa_cons pe_int pa_nil))) (pa_cons (pe_callG (g__law_draw T) (hr.mono (by decide)) fr (by rfl) T.m__law_draw T.F__law_draw.kp pass0 (pa_cons (pv 0) (pa_cons pe_int pa_nil))) pa_nil)) (by rfl))
 (pss_cons (ps_if (pt_cmpR op_lt (pv 5) (pe_callB call_len_seq (by rfl) T.b_len PySem.boot_len (pa_cons (pv 3) pa_nil)) (nomark _)) (pss_one (ps_asg (pe_ix ix_list (pv 3) (pv 5) (fun _ _ => rfl)) (pg_tup (by rfl) (pgs_cons (pg_name (i := 7) sc__law_net.nd rfl (Or.inl rfl)) (pgs_cons (pg_name (i := 8) sc__law_net.nd rfl (Or.inl rfl)) pgs_nil))))) pss_nil)
 (pss_one (ps_expr (pe_bm PySem.F.plainAttrs_list PySem.F.slot_list_append PySem.F.type_list_append mt_append (pv 4) (pa_cons (pe_tup (pa_cons (pv 6) (pa_cons (pv 7) (pa_cons (pv 8) pa_nil)))) pa_nil)))))))
 (pss_one (ps_ret (pv 4))))))), ?_⟩
    have S0 := Same.refl H
    refine ⟨by show 2 ≤ sizeLine; decide, fun t0 nt0 => ?_⟩
    have S1 := S0.trans (Same.new nt0 (o := .tup [.int 0, .int 2]))
    refine ⟨by show 2 ≤ sizeLine; decide, fun t1 nt1 => ?_⟩
    have S2 := S1.trans (Same.new nt1 (o := .tup [.int 2, .int 1]))
    refine ⟨by show 2 ≤ sizeLine; decide, fun t2 nt2 => ?_⟩
    have S3 := S2.trans (Same.new nt2 (o := .tup [.int 0, .int 3]))
    refine ⟨by show 2 ≤ sizeLine; decide, fun t3 nt3 => ?_⟩
    have S4 := S3.trans (Same.new nt3 (o := .tup [.int 3, .int 1]))
    refine ⟨by show 2 ≤ sizeLine; decide, fun t4 nt4 => ?_⟩
    have S5 := S4.trans (Same.new nt4 (o := .tup [.int 2, .int 3]))
    refine ⟨by show 5 ≤ sizeLine; decide, fun r0 nr0 => ?_⟩
    have pr0 : r0 ≠ p := (ne_of_none (S5 _ _ W.pn) nr0).symm
    have S6 := S5.trans (Same.new nr0 (o := .lst [.ref t0, .ref t1, .ref t2, .ref t3, .ref t4]))
    refine ⟨by show 2 ≤ sizeLine; decide, fun t5 nt5 => ?_⟩
    have S7 := S6.trans (Same.new nt5 (o := .tup [.int 0, .int 1]))
    refine ⟨by show 2 ≤ sizeLine; decide, fun t6 nt6 => ?_⟩
    have S8 := S7.trans (Same.new nt6 (o := .tup [.int 0, .int 2]))
    refine ⟨by show 2 ≤ sizeLine; decide, fun t7 nt7 => ?_⟩
    have S9 := S8.trans (Same.new nt7 (o := .tup [.int 2, .int 1]))
    refine ⟨by show 2 ≤ sizeLine; decide, fun t8 nt8 => ?_⟩
    have S10 := S9.trans (Same.new nt8 (o := .tup [.int 2, .int 3]))
    refine ⟨by show 2 ≤ sizeLine; decide, fun t9 nt9 => ?_⟩
    have S11 := S10.trans (Same.new nt9 (o := .tup [.int 3, .int 1]))
    refine ⟨by show 5 ≤ sizeLine; decide, fun r1 nr1 => ?_⟩
    have pr1 : r1 ≠ p := (ne_of_none (S11 _ _ W.pn) nr1).symm
    have S12 := S11.trans (Same.new nr1 (o := .lst [.ref t5, .ref t6, .ref t7, .ref t8, .ref t9]))
    refine ⟨by show 0 ≤ sizeLine; decide, fun r2 nr2 => ?_⟩
    have pr2 : r2 ≠ p := (ne_of_none (S12 _ _ W.pn) nr2).symm
    have S13 := S12.trans (Same.new nr2 (o := .lst []))
    refine ⟨by show 3 ≤ sizeLine; decide, fun L nL => ?_⟩
    have pL : L ≠ p := (ne_of_none (S13 _ _ W.pn) nL).symm
    generalize hG : upd _ r2 (.lst []) = G at nL S13 ⊢
    have gt0 : G t0 = some (.tup [.int 0, .int 2]) := by rw [← hG]; walk_at "hp"
    have gt1 : G t1 = some (.tup [.int 2, .int 1]) := by rw [← hG]; walk_at "hp"
    have gt2 : G t2 = some (.tup [.int 0, .int 3]) := by rw [← hG]; walk_at "hp"
    have gt3 : G t3 = some (.tup [.int 3, .int 1]) := by rw [← hG]; walk_at "hp"
    have gt4 : G t4 = some (.tup [.int 2, .int 3]) := by rw [← hG]; walk_at "hp"
    have gr0 : G r0 = some (.lst [.ref t0, .ref t1, .ref t2, .ref t3, .ref t4]) := by rw [← hG]; walk_at "hp"
    have gt5 : G t5 = some (.tup [.int 0, .int 1]) := by rw [← hG]; walk_at "hp"
    have gt6 : G t6 = some (.tup [.int 0, .int 2]) := by rw [← hG]; walk_at "hp"
    have gt7 : G t7 = some (.tup [.int 2, .int 1]) := by rw [← hG]; walk_at "hp"
    have gt8 : G t8 = some (.tup [.int 2, .int 3]) := by rw [← hG]; walk_at "hp"
    have gt9 : G t9 = some (.tup [.int 3, .int 1]) := by rw [← hG]; walk_at "hp"
    have gr1 : G r1 = some (.lst [.ref t5, .ref t6, .ref t7, .ref t8, .ref t9]) := by rw [← hG]; walk_at "hp"
    have gr2 : G r2 = some (.lst []) := by rw [← hG]; walk_at "hp"
    have sp0 : SpotsAt G p r0 [(0, 2), (2, 1), (0, 3), (3, 1), (2, 3)] := ⟨⟨_, gr0, (.cons ⟨t0, rfl, gt0⟩ (.cons ⟨t1, rfl, gt1⟩ (.cons ⟨t2, rfl, gt2⟩ (.cons ⟨t3, rfl, gt3⟩ (.cons ⟨t4, rfl, gt4⟩ .nil)))))⟩, pr0, by decide, by decide⟩
    have sp1 : SpotsAt G p r1 [(0, 1), (0, 2), (2, 1), (2, 3), (3, 1)] := ⟨⟨_, gr1, (.cons ⟨t5, rfl, gt5⟩ (.cons ⟨t6, rfl, gt6⟩ (.cons ⟨t7, rfl, gt7⟩ (.cons ⟨t8, rfl, gt8⟩ (.cons ⟨t9, rfl, gt9⟩ .nil)))))⟩, pr1, by decide, by decide⟩
    have sp2 : SpotsAt G p r2 [] := ⟨⟨_, gr2, .nil⟩, pr2, by decide, by decide⟩
    clear hG gt0 gt1 gt2 gt3 gt4 gr0 gt5 gt6 gt7 gt8 gt9 gr1 gr2
    have SL := S13.trans (Same.new nL (o := .lst [.ref r0, .ref r1, .ref r2]))
    have WG := W.keep S13
    have WL := WG.keep (Same.new nL (o := .lst [.ref r0, .ref r1, .ref r2]))
    have KL := Keep.of (p := p) (Same.new nL (o := .lst [.ref r0, .ref r1, .ref r2]))
    have q0 := sp0.pen WG KL
    have q1 := sp1.pen WG KL
    have q2 := sp2.pen WG KL
    have hL0 := upd_same (H := G) (a := L) (o := .lst [.ref r0, .ref r1, .ref r2])
    generalize upd G L (.lst [.ref r0, .ref r1, .ref r2]) = G1 at SL WL q0 q1 q2 hL0 ⊢
    clear sp0 sp1 sp2 KL WG S0 S1 S2 S3 S4 S5 S6 S7 S8 S9 S10 S11 S12 S13
    refine gname_nx ?_
    dsimp only
    refine seq_of ?_
    refine ⟨_, rfl, _, rfl, p, c, ns, a, g, 3, rfl, by decide, by decide, WL, fun d a1 g1 H1 hp1 k1 d0 d1 l1 u1 => ?_⟩
    have W1 := WL.next l1 (by omega) hp1 k1
    have K1 : Keep p H H1 := (Keep.of SL).trans k1
    obtain ⟨r, ps, er, sr⟩ : ∃ r ps, atI [V.ref r0, .ref r1, .ref r2] d = some (.ref r) ∧ SpotsAt H1 p r ps := by
      rcases (show d = 0 ∨ d = 1 ∨ d = 2 by omega) with rfl | rfl | rfl
      · exact ⟨r0, _, rfl, q0.pen WL k1⟩
      · exact ⟨r1, _, rfl, q1.pen WL k1⟩
      · exact ⟨r2, _, rfl, q2.pen WL k1⟩
    refine ⟨_, _, _, _, rfl, rfl, SqL.of (k1 _ _ hL0 pL), er, ?_⟩
    refine gname_nx ?_
    dsimp only
    refine seq_of ?_
    refine ⟨by show 0 ≤ sizeLine; decide, fun F nF => ?_⟩
    have pF : F ≠ p := (ne_of_none W1.pn nF).symm
    have cF : F ≠ c := (ne_of_none W1.cs nF).symm
    have Fn : H F = none := keep_none K1 nF pF
    have hl1 := K1 _ _ hl lp
    have Fl : l ≠ F := ne_of_none hl1 nF
    have Fr : F ≠ r := by
      obtain ⟨_, hr, _⟩ := sr.at_
      exact (ne_of_none hr nF).symm
    have sF := Same.new nF (o := .lst [])
    refine gname_nx ?_
    dsimp only
    refine seq_of ?_
    refine ⟨_, rfl, l, _, rfl, SqL.of (sF _ _ hl1), ?_⟩
    refine for_it (walk_enum (K := K) (a := l) (xs := ws.map V.str)) (fun i σ H' => ∃ b5 b6 b7 b8 xs ls a' g', σ = [some (.ref p), some (.ref l), some (.ref L), some (.ref r), some (.ref F), b5, b6, b7, b8] ∧ H' F = some (.lst xs) ∧ TLs H' xs ls ∧ (∀ k ∈ ls, LokP k) ∧ ls.length = i ∧ PenAt H' p c ns a' g' ∧ Keep p H H' ∧ SpotsAt H' p r ps ∧ H' l = some (.lst (ws.map V.str)) ∧ a ≤ a' ∧ a' ≤ a + 1 + 2 * ((i : Nat) : Int)) ⟨_, _, _, _, [], [], a1, g1, rfl, upd_same, .nil, (fun k hk => nomatch hk), rfl, W1.keep sF, K1.trans (Keep.of sF), sr.pen W1 (Keep.of sF), sF _ _ hl1, by omega, by omega⟩ (fun i σ H' _ z => by obtain ⟨_, _, _, _, _, _, _, _, _, _, _, _, _, _, _, _, h, _⟩ := z; exact SqL.of h) ?_ ?_
    · rintro i y σ H2 H3 hi ⟨b5, b6, b7, b8, xs, ls, a2, g2, rfl, hF, tl, lk, ll, W2, K2, sp2, hl2, v1, v2⟩ ⟨T2, x1, y1, rfl, nT, rfl, e1, e2⟩
      cases e1
      have e2 : (ws.map V.str)[i]? = some y1 := e2
      rw [List.getElem?_map] at e2
      obtain ⟨n, en, rfl⟩ := Option.map_eq_some_iff.mp e2
      rw [List.length_map] at hi
      have s3 := Same.new nT (o := .tup [.int (i : Nat), .str n])
      refine ⟨T2, _, rfl, SqT.of upd_same, rfl, _, _, rfl, _, _, rfl, rfl, ?_⟩
      generalize upd H2 T2 (.tup [.int (i : Nat), .str n]) = H3 at s3 ⊢
      have W3 := W2.keep s3
      refine ⟨_, rfl, p, c, ns, a2, g2, 5, rfl, by decide, by decide, W3, fun d2 a4 g4 H4 hp4 k4 d20 d21 l4 u4 => ?_⟩
      have W4 := W3.next l4 (by omega) hp4 k4
      refine ⟨_, rfl, p, c, ns, a4, g4, 5, rfl, by decide, by decide, W4, fun d3 a5 g5 H5 hp5 k5 d30 d31 l5 u5 => ?_⟩
      have W5 := W4.next l5 (by omega) hp5 k5
      have K25 : Keep p H2 H5 := ((Keep.of s3).trans k4).trans k5
      have K5 := K2.trans K25
      have sp5 := sp2.pen W2 K25
      have hF5 := K25 _ _ hF pF
      have hl5 := K25 _ _ hl2 lp
      have tl5 := tl.st (StT.pen W2 K25)
      obtain ⟨xr, hr, pr⟩ := sp5.at_
      have prl := Paired.length pr
      have pf := sp5.few
      refine ⟨_, _, rfl, ?_⟩
      refine ⟨_, rfl, _, rfl, _, _, rfl, .inl (SqL.of hr), _, _, rfl, rfl, _, rfl, ?_⟩
      refine ite2 (fun z => ?_) (fun z => ?_)
      · have z : ((i : Nat) : Int) < ((xr.length : Nat) : Int) := of_decide_eq_true z
        obtain ⟨xe, exe⟩ : ∃ xe, xr[i]? = some xe := ⟨_, List.getElem?_eq_getElem (by omega)⟩
        obtain ⟨e, ee, qe, rfl, hqe⟩ := pair_at pr exe
        have eo := sp5.ok e (List.mem_of_getElem? ee)
        refine ⟨_, rfl, _, rfl, _, _, _, _, rfl, rfl, SqL.of hr, atI_nat (j := i) exe, qe, _, rfl, SqT.of hqe, rfl, _, _, rfl, _, _, rfl, rfl, ?_⟩
        refine ⟨_, rfl, .inl ⟨rfl, _, SqL.of hF5⟩, _, rfl, _, rfl, _, rfl, by show 3 ≤ sizeLine; decide, fun t nt => ?_⟩
        have hF6 := hp_new (o := .tup [.str n, .int e.1, .int e.2]) hF5 nt
        have s6 := Same.new nt (o := .tup [.str n, .int e.1, .int e.2])
        have tF : t ≠ F := (ne_of_none hF5 nt).symm
        have tl2 := tl.len
        refine ⟨F, xs, _, rfl, rfl, hF6, by rw [sizeLine_eq]; omega, ?_⟩
        refine ⟨_, _, _, _, xs ++ [.ref t], ls ++ [(n, e.1, e.2)], a5, g5, rfl, upd_same, ?_, (fun k hk => ?_), by rw [List.length_append, ll]; rfl, (W5.keep s6).mut pF cF _, (K5.trans (Keep.of s6)).mut Fn _, (sp5.pen W5 (Keep.of s6)).mut hF6 Fr, hp_mut (s6 _ _ hl5) Fl, by omega, by omega⟩
        · exact ((tl5.st (StT.same s6)).st ((StT.refl _).mut hF6 (fun _ z => by cases z))).snoc ⟨t, rfl, hp_mut upd_same tF⟩
        · rcases List.mem_append.mp hk with hk | hk
          · exact lk k hk
          · rw [List.mem_singleton.mp hk]
            exact ⟨ok n (List.mem_of_getElem? en), eo.1, eo.2⟩
      · skip
        refine ⟨_, rfl, .inl ⟨rfl, _, SqL.of hF5⟩, _, rfl, _, rfl, _, rfl, by show 3 ≤ sizeLine; decide, fun t nt => ?_⟩
        have hF6 := hp_new (o := .tup [.str n, .int d2, .int d3]) hF5 nt
        have s6 := Same.new nt (o := .tup [.str n, .int d2, .int d3])
        have tF : t ≠ F := (ne_of_none hF5 nt).symm
        have tl2 := tl.len
        refine ⟨F, xs, _, rfl, rfl, hF6, by rw [sizeLine_eq]; omega, ?_⟩
        refine ⟨_, _, _, _, xs ++ [.ref t], ls ++ [(n, d2, d3)], a5, g5, rfl, upd_same, ?_, (fun k hk => ?_), by rw [List.length_append, ll]; rfl, (W5.keep s6).mut pF cF _, (K5.trans (Keep.of s6)).mut Fn _, (sp5.pen W5 (Keep.of s6)).mut hF6 Fr, hp_mut (s6 _ _ hl5) Fl, by omega, by omega⟩
        · exact ((tl5.st (StT.same s6)).st ((StT.refl _).mut hF6 (fun _ z => by cases z))).snoc ⟨t, rfl, hp_mut upd_same tF⟩
        · rcases List.mem_append.mp hk with hk | hk
          · exact lk k hk
          · rw [List.mem_singleton.mp hk]
            exact ⟨ok n (List.mem_of_getElem? en), ⟨d20, by show d2 ≤ 99; omega⟩, d30, by show d3 ≤ 99; omega⟩
    rintro σ H2 ⟨b5, b6, b7, b8, xs, ls, a2, g2, rfl, hF, tl, lk, ll, W2, K2, sp2, hl2, v1, v2⟩
    rw [List.length_map] at ll v2
    exact ⟨_, rfl, k F xs ls a2 g2 H2 W2.pn K2 Fn hF tl lk ll v1 (by omega)⟩
end
end RR
set_option maxHeartbeats 4000000
namespace RR
open PySem PySem.Spec PyProof.Rows L2
local macro_rules | `(tactic| walk_at "hp") => `(tactic| first | assumption | exact upd_same | (refine hp_new ?_ (by assumption); walk_at "hp") | (refine hp_mut ?_ (by first | assumption | (apply Ne.symm; assumption)); walk_at "hp") | (refine Same.at (by assumption) ?_; walk_at "hp"))
local macro_rules | `(tactic| walk_at "same") => `(tactic| first | exact fun _ _ z => z | assumption | (refine same_new ?_ (by assumption); walk_at "same") | (refine L2.Same.trans ?_ (by assumption); walk_at "same"))
local macro_rules | `(tactic| walk_at "sq") => `(tactic| exact SqL.of (by walk_at "hp"))
local macro_rules | `(tactic| walk_at "sqT") => `(tactic| exact SqT.of (by walk_at "hp"))

open LamX
section
variable {P : Program} {w : World} {K : PySem.W.Frag} {mg : Str → Option Value} {base : Heap}
theorem g__law_links (T : TX K mg) : FnG P w K mg base CX0 20 T.f__law_links (spLinksP) := by
  refine okG T.F__law_links sc__law_links (bd__law_links T.F__law_links) (fun vs H Q E h => ?_) (fun cdv A out s H vs Q E hr fr h => ?_)
  · obtain ⟨p, c, ns, a, g, l, ws, rfl, W, hl, lp, w1, wl, ok, ha, k⟩ := h
    rfl
  · obtain ⟨p, c, ns, a, g, l, ws, rfl, W, hl, lp, w1, wl, ok, ha, k⟩ := h
    refine ⟨_, (pss_cons (ps_if (pt_cmpR op_eq (pe_callG (g__law_draw T) (hr.mono (by decide)) fr (by rfl) T.m__law_draw T.F__law_draw.kp pass0 (pa_cons (pv 0) (pa_cons pe_int pa_nil))) pe_int (nomark _)) (pss_one (ps_ret (pe_callG (g__law_net T) (hr.mono (by decide)) fr (by rfl) T.m__law_net T.F__law_net.kp pass0 (pa_cons (pv 0) (pa_cons (pv 1) pa_nil))))) pss_nil)
 (pss_one (ps_ret (pe_ix ix_list (pe_callR (r__law_laid T) (hr.mono (by decide)) (by rfl) T.m__law_laid T.F__law_laid.kp pass0 (pa_cons (pe_callG (g__law_tied T) (hr.mono (by decide)) fr (by rfl) T.m__law_tied T.F__law_tied.kp pass0 (pa_cons (pv 0) (pa_cons (pv 1) pa_nil))) (pa_cons pe_int (pa_cons pe_int (pa_cons pe_int pa_nil))))) pe_int (fun _ _ => rfl))))), ?_⟩
    refine ⟨_, rfl, p, c, ns, a, g, 2, rfl, by decide, by decide, W, fun d a1 g1 H1 hp1 k1 d0 d1 l1 u1 => ?_⟩
    have W1 := W.next l1 (by omega) hp1 k1
    have hl1 := k1 _ _ hl lp
    refine ⟨rfl, _, rfl, ?_⟩
    rw [dec_int]
    by_cases z : d = 0
    · rw [decide_eq_true z]
      refine iteT ?_
      refine ⟨_, rfl, _, rfl, p, c, ns, a1, g1, l, ws, rfl, W1, hl1, lp, wl, ok, by omega, fun q xs ls a2 g2 H2 hp2 k2 nq hq tl lk ll l2 u2 => ?_⟩
      exact k q xs ls a2 g2 H2 hp2 (k1.trans k2) (fun z => by subst z; rw [W1.pn] at nq; cases nq) hq tl lk ll (by omega) (by omega)
    · rw [decide_eq_false z]
      refine iteF ?_
      refine ⟨_, rfl, _, rfl, p, c, ns, a1, g1, l, ws, rfl, W1, hl1, lp, w1, wl, by omega, fun v t a2 g2 H2 hp2 k2 tv en l2 u2 => ?_⟩
      have td := Tr.dep_lt t
      rw [en] at td
      have W2 := W1.next l2 (by omega) hp2 k2
      refine ⟨v, t, 0, 1, 2, rfl, tv, by omega, by rw [en]; exact ok, by decide, by decide, by decide, by decide, by decide, by rw [en]; omega, fun q la f1 xs ls H3 s3 nq nla hq hla tl lk ll g0 g1' => ?_⟩
      refine ⟨_, _, _, _, rfl, rfl, SqL.of hq, rfl, ?_⟩
      exact k la xs ls a2 g2 H3 (s3 _ _ hp2) ((k1.trans k2).trans (Keep.of s3)) (fun z => by subst z; rw [W2.pn] at nla; cases nla) hla tl lk (by rw [ll, en]) (by omega) (by omega)
end
end RR
set_option maxHeartbeats 4000000
namespace RR
open PySem PySem.Spec PyProof.Rows L2
local macro_rules | `(tactic| walk_at "hp") => `(tactic| first | assumption | exact upd_same | (refine hp_new ?_ (by assumption); walk_at "hp") | (refine hp_mut ?_ (by first | assumption | (apply Ne.symm; assumption)); walk_at "hp") | (refine Same.at (by assumption) ?_; walk_at "hp"))
local macro_rules | `(tactic| walk_at "same") => `(tactic| first | exact fun _ _ z => z | assumption | (refine same_new ?_ (by assumption); walk_at "same") | (refine L2.Same.trans ?_ (by assumption); walk_at "same"))
local macro_rules | `(tactic| walk_at "sq") => `(tactic| exact SqL.of (by walk_at "hp"))
local macro_rules | `(tactic| walk_at "sqT") => `(tactic| exact SqT.of (by walk_at "hp"))

open LamX
section
variable {P : Program} {w : World} {K : PySem.W.Frag} {mg : Str → Option Value} {base : Heap}
theorem g__law_bent (T : TX K mg) : FnG P w K mg base CX0 3 T.f__law_bent (spBentP) := by
  refine okG T.F__law_bent sc__law_bent (bd__law_bent T.F__law_bent) (fun vs H Q E h => ?_) (fun cdv A out s H vs Q E hr fr h => ?_)
  · obtain ⟨p, c, ns, a, g, l, xs, ls, rfl, W, hl, tl, lk, lp, ll, ha, k⟩ := h
    rfl
  · obtain ⟨p, c, ns, a, g, l, xs, ls, rfl, W, hl, tl, lk, lp, ll, ha, k⟩ := h
    refine ⟨_, (pss_cons (ps_set (i := 2) sc__law_bent.nd rfl (Or.inl rfl) (pe_callG (g__law_draw T) (hr.mono (by decide)) fr (by rfl) T.m__law_draw T.F__law_draw.kp pass0 (pa_cons (pv 0) (pa_cons pe_int pa_nil))))
 (pss_cons (ps_par (i := 3) (j := 4) (by rfl) sc__law_bent.nd rfl rfl (by decide) rfl rfl (pa_cons (pe_callG (g__law_draw T) (hr.mono (by decide)) fr (by rfl) T.m__law_draw T.F__law_draw.kp pass0 (pa_cons (pv 0) (pa_cons pe_int pa_nil))) (pa_cons (pe_callG (g__law_draw T) (hr.mono (by decide)) fr (by rfl) T.m__law_draw T.F__law_draw.kp pass0 (pa_cons (pv 0) (pa_cons pe_int pa_nil))) pa_nil)) (by rfl))
 (C8.pss_cut (ps_if (PW.pt (pw_and (pt_cmpR op_eq (pv 2) pe_int (nomark _)) (pw_and1 (pt_cmpR (op_neD hr.units) (pe_callB (r := rSorted K) cr_sorted (by rfl) T.b_sorted (by decide +kernel) (pa_cons (pe_lst (pa_cons (pe_callTy call_int1 (by rfl) T.b_int (by decide +kernel) (pa_cons (pv 3) pa_nil)) (pa_cons (pe_callTy call_int1 (by rfl) T.b_int (by decide +kernel) (pa_cons (pv 4) pa_nil)) pa_nil))) pa_nil)) (pe_lst (pa_cons pe_int (pa_cons pe_int pa_nil))) (nomark _))))) (pss_cons (ps_asg (pe_tup (pa_cons (pe_callB (r := rMin K) (cr_min rfl) (by rfl) T.b_min (by decide +kernel) (pa_cons (pe_lst (pa_cons (pe_callTy call_int1 (by rfl) T.b_int (by decide +kernel) (pa_cons (pv 3) pa_nil)) (pa_cons (pe_callTy call_int1 (by rfl) T.b_int (by decide +kernel) (pa_cons (pv 4) pa_nil)) pa_nil))) pa_nil)) (pa_cons (pe_callB (r := rMax K) (cr_max rfl) (by rfl) T.b_max (by decide +kernel) (pa_cons (pe_lst (pa_cons (pe_callTy call_int1 (by rfl) T.b_int (by decide +kernel) (pa_cons (pv 3) pa_nil)) (pa_cons (pe_callTy call_int1 (by rfl) T.b_int (by decide +kernel) (pa_cons (pv 4) pa_nil)) pa_nil))) pa_nil)) pa_nil))) (pg_tup (by rfl) (pgs_cons (pg_name (i := 5) sc__law_bent.nd rfl (Or.inr rfl)) (pgs_cons (pg_name (i := 6) sc__law_bent.nd rfl (Or.inr rfl)) pgs_nil))))
 (pss_one (ps_ret (pe_lc (own := [("_law_name", 7), ("_law_a", 8), ("_law_b", 9)]) (g := (gTup K 3 (gCons (gName 7) (gCons (gName 8) (gCons (gName 9) gNil))))) (tt := tYes) (by rfl) sc__law_bent.nd (pi_list (pv 1)) (blkOk_by (own := [("_law_name", 7), ("_law_a", 8), ("_law_b", 9)]) (N := N__law_bent) (sc := defScope s__law_bent) (by decide +kernel)) (fun _ _ _ _ _ => (pg_tup (by rfl) (pgs_cons (pg_name (i := 7) sc__law_bent.nd rfl (Or.inl rfl)) (pgs_cons (pg_name (i := 8) sc__law_bent.nd rfl (Or.inl rfl)) (pgs_cons (pg_name (i := 9) sc__law_bent.nd rfl (Or.inl rfl)) pgs_nil))))) (fun _ _ _ _ _ => pts_nil) (fun _ _ _ _ _ => (pe_tup (pa_cons (pv 7) (pa_cons (pe_ifExp (pt_cmpR op_eq (pv 8) (pv 6) (nomark _)) (pv 5) (pv 8)) (pa_cons (pe_ifExp (pt_cmpR op_eq (pv 9) (pv 6) (nomark _)) (pv 5) (pv 9)) pa_nil))))))))) pss_nil)
 (C8.pss_cut (ps_if (PW.pt (pw_or (pt_cmpR op_eq (pv 2) pe_int (nomark _)) (pw_or1 (pt_cmpR (op_eqD hr.units) (pv 1) (pe_lst pa_nil) (nomark _))))) (pss_one (ps_ret (pe_op op_cat (pv 1) (pe_lst (pa_cons (pe_tup (pa_cons pe_str (pa_cons (pv 3) (pa_cons (pv 4) pa_nil)))) pa_nil))))) pss_nil)
 (pss_cons (ps_set (i := 10) sc__law_bent.nd rfl (Or.inl rfl) (pe_callG (g__law_draw T) (hr.mono (by decide)) fr (by rfl) T.m__law_draw T.F__law_draw.kp pass0 (pa_cons (pv 0) (pa_cons (pe_callB call_len_seq (by rfl) T.b_len PySem.boot_len (pa_cons (pv 1) pa_nil)) pa_nil))))
 (pss_cons (ps_if (pt_cmpR op_eq (pv 2) pe_int (nomark _)) (pss_one (ps_ret (pe_op op_cat (pe_slice sl_list (pv 1) po_none (po_some (pv 10))) (pe_slice sl_list (pv 1) (po_some (pe_op op_add (pv 10) pe_int)) po_none)))) pss_nil)
 (pss_cons (ps_if (pt_cmpR op_eq (pv 2) pe_int (nomark _)) (pss_one (ps_ret (pe_op op_cat (pe_op op_cat (pe_slice sl_list (pv 1) po_none (po_some (pv 10))) (pe_lst (pa_cons (pe_tup (pa_cons (pe_ix (r := rIxT K) ix_tup (pe_ix ix_list (pv 1) (pv 10) (fun _ _ => rfl)) pe_int (fun _ _ => rfl)) (pa_cons (pv 3) (pa_cons (pe_ix (r := rIxT K) ix_tup (pe_ix ix_list (pv 1) (pv 10) (fun _ _ => rfl)) pe_int (fun _ _ => rfl)) pa_nil)))) pa_nil))) (pe_slice sl_list (pv 1) (po_some (pe_op op_add (pv 10) pe_int)) po_none)))) pss_nil)
 (pss_cons (ps_set (i := 11) sc__law_bent.nd rfl (Or.inl rfl) (pe_callG (g__law_draw T) (hr.mono (by decide)) fr (by rfl) T.m__law_draw T.F__law_draw.kp pass0 (pa_cons (pv 0) (pa_cons (pe_callB call_len_seq (by rfl) T.b_len PySem.boot_len (pa_cons (pv 1) pa_nil)) pa_nil))))
 (pss_cons (ps_set (i := 12) sc__law_bent.nd rfl (Or.inl rfl) (pe_callTy call_list_of (by rfl) T.b_list (by decide +kernel) (pa_cons (pv 1) pa_nil)))
 (pss_cons (ps_asg (pe_tup (pa_cons (pe_ix (r := rIxT K) ix_tup (pe_ix ix_list (pv 1) (pv 11) (fun _ _ => rfl)) pe_int (fun _ _ => rfl)) (pa_cons (pe_ix (r := rIxT K) ix_tup (pe_ix ix_list (pv 1) (pv 10) (fun _ _ => rfl)) pe_int (fun _ _ => rfl)) (pa_cons (pe_ix (r := rIxT K) ix_tup (pe_ix ix_list (pv 1) (pv 10) (fun _ _ => rfl)) pe_int (fun _ _ => rfl)) pa_nil)))) (pg_sub (pv 12) (pv 10) set_list))
 (pss_cons (ps_asg (pe_tup (pa_cons (pe_ix (r := rIxT K) ix_tup (pe_ix ix_list (pv 1) (pv 10) (fun _ _ => rfl)) pe_int (fun _ _ => rfl)) (pa_cons (pe_ix (r := rIxT K) ix_tup (pe_ix ix_list (pv 1) (pv 11) (fun _ _ => rfl)) pe_int (fun _ _ => rfl)) (pa_cons (pe_ix (r := rIxT K) ix_tup (pe_ix ix_list (pv 1) (pv 11) (fun _ _ => rfl)) pe_int (fun _ _ => rfl)) pa_nil)))) (pg_sub (pv 12) (pv 11) set_list))
 (pss_one (ps_ret (pv 12)))))))))))))), ?_⟩
    refine ⟨_, rfl, p, c, ns, a, g, 5, rfl, by decide, by decide, W, fun d a1 g1 H1 hp1 k1 d0 d1 l1 u1 => ?_⟩
    have W1 := W.next l1 (by omega) hp1 k1
    refine ⟨_, rfl, p, c, ns, a1, g1, 5, rfl, by decide, by decide, W1, fun u a2 g2 H2 hp2 k2 u0 u9 l2 u2 => ?_⟩
    have W2 := W1.next l2 (by omega) hp2 k2
    refine ⟨_, rfl, p, c, ns, a2, g2, 5, rfl, by decide, by decide, W2, fun v a3 g3 H3 hp3 k3 v0 v9 l3 u3 => ?_⟩
    have W3 := W2.next l3 (by omega) hp3 k3
    have K3 := (k1.trans k2).trans k3
    have hl3 := K3 _ _ hl lp
    have tl3 := tl.st (StT.pen W K3)
    have tll := tl.len
    clear hp1 k1 hp2 k2 hp3 k3 W1 W2
    refine ⟨_, _, rfl, ?_⟩
    dsimp only
    refine ⟨fun σ' H' => σ' = [some (.ref p), some (.ref l), some (.int d), some (.int u), some (.int v), none, none, none, none, none, none, none, none] ∧ Same H3 H', ?_, ?_⟩
    · refine ⟨_, rfl, rfl, _, rfl, ?_⟩
      rw [dec_int]
      by_cases z : d = 0
      · rw [decide_eq_true z]
        refine iteT ?_
        refine ⟨_, rfl, .inl ⟨_, rfl, _, rfl, .inl ⟨_, rfl, by show 2 ≤ sizeLine; decide, fun A nA => ⟨A, [u, v], rfl, SqL.of upd_same, by show 2 < 64; decide, fun ns' B pm pw nB => ?_⟩⟩⟩⟩
        refine ⟨by show 2 ≤ sizeLine; decide, fun C nC => ?_⟩
        have S5 := ((Same.new nA (o := .lst [.int u, .int v])).trans (Same.new nB (o := .lst (ns'.map V.int)))).trans (Same.new nC (o := .lst [.int 0, .int 1]))
        refine ⟨.list (ns'.map .int), .list [.int 0, .int 1], .lst (SqL.of (hp_new upd_same nC)) (dp_ints _), .lst (SqL.of upd_same) (dp_ints [0, 1]), shaped_ints _, shaped_ints [0, 1], _, rfl, ?_⟩
        generalize upd (upd (upd H3 A (.lst [.int u, .int v])) B (.lst (ns'.map V.int))) C (.lst [.int 0, .int 1]) = H5 at S5 ⊢
        clear nA nB nC pm pw
        refine ite2 (fun z2 => ?_) (fun z2 => ?_)
        · refine ⟨_, rfl, .inl ⟨_, rfl, _, rfl, .inl ⟨_, rfl, by show 2 ≤ sizeLine; decide, fun A nA => ⟨A, [u, v], rfl, SqL.of upd_same, by show 0 < 2; decide, fun lo mlo llo => ?_⟩⟩⟩⟩
          have S6 := S5.trans (Same.new nA (o := .lst [.int u, .int v]))
          generalize upd H5 A (.lst [.int u, .int v]) = H6 at S6 ⊢
          refine ⟨_, rfl, .inl ⟨_, rfl, _, rfl, .inl ⟨_, rfl, by show 2 ≤ sizeLine; decide, fun B nB => ⟨B, [u, v], rfl, SqL.of upd_same, by show 0 < 2; decide, fun hi mhi lhi => ?_⟩⟩⟩⟩
          have S7 := S6.trans (Same.new nB (o := .lst [.int u, .int v]))
          generalize upd H6 B (.lst [.int u, .int v]) = H7 at S7 ⊢
          have lo0 : 0 ≤ lo ∧ lo ≤ 99 := by
            simp only [List.mem_cons, List.not_mem_nil, or_false] at mlo
            omega
          refine ⟨by show 2 ≤ sizeLine; decide, fun z nz => ?_⟩
          have S8 := S7.trans (Same.new nz (o := .tup [.int lo, .int hi]))
          refine ⟨z, _, rfl, SqT.of upd_same, rfl, _, _, rfl, _, _, rfl, rfl, ?_⟩
          generalize upd H7 z (.tup [.int lo, .int hi]) = H8 at S8 ⊢
          have hl8 := S8 _ _ hl3
          have tl8 := tl3.st (StT.same S8)
          refine ⟨_, rfl, l, rfl, ⟨_, SqL.of hl8⟩, fun D nD => ?_⟩
          refine lc_list (xs := xs) (fun i H' => Same H8 H' ∧ ∃ acc, H' D = some (.lst acc) ∧ TLs H' acc ((ls.map (relab (mrg lo hi))).take i)) ⟨Same.new nD, [], upd_same, by rw [List.take_zero]; exact .nil⟩ (fun i H' _ z => SqL.of (z.1 _ _ hl8)) ?_ ?_
          · rintro i y Hx hy ⟨sx, acc, hD, ta⟩
            obtain ⟨k0, el, w0, rfl, hw⟩ := pair_at tl8 hy
            have il := (List.getElem?_eq_some_iff.mp el).1
            have hw := sx _ _ hw
            refine ⟨w0, _, rfl, SqT.of hw, rfl, _, _, rfl, _, _, rfl, _, _, rfl, rfl, ?_⟩
            refine ⟨rfl, ?_⟩
            refine ⟨_, rfl, _, rfl, _, rfl, rfl, _, rfl, ?_⟩
            rw [dec_int]
            by_cases hu : k0.2.1 = hi
            · rw [decide_eq_true hu]
              refine iteT ?_
              refine ⟨_, rfl, _, rfl, _, rfl, rfl, _, rfl, ?_⟩
              rw [dec_int]
              by_cases hv : k0.2.2 = hi
              · rw [decide_eq_true hv]
                refine iteT ?_
                refine ⟨_, rfl, by show 3 ≤ sizeLine; decide, fun e ne => ?_⟩
                have al := ta.len
                rw [List.length_take, List.length_map] at al
                refine ⟨acc, hp_new hD ne, by rw [sizeLine_eq]; omega, same_mut (sx.trans (Same.new ne)) nD, _, upd_same, ?_⟩
                have st : StT Hx (upd (upd Hx e (.tup [.str k0.1, .int lo, .int lo])) D (.lst (acc ++ [.ref e]))) := ((StT.refl _).new ne).mut (hp_new hD ne) (fun _ z => by cases z)
                rw [List.take_add_one, show (ls.map (relab (mrg lo hi)))[i]? = some (k0.1, lo, lo) from by rw [List.getElem?_map, el]; show some (k0.1, mrg lo hi k0.2.1, mrg lo hi k0.2.2) = _; unfold mrg; rw [if_pos hu, if_pos hv]]
                exact (ta.st st).snoc ⟨e, rfl, hp_mut upd_same (ne_of_none hD ne).symm⟩
              · rw [decide_eq_false hv]
                refine iteF ?_
                refine ⟨_, rfl, by show 3 ≤ sizeLine; decide, fun e ne => ?_⟩
                have al := ta.len
                rw [List.length_take, List.length_map] at al
                refine ⟨acc, hp_new hD ne, by rw [sizeLine_eq]; omega, same_mut (sx.trans (Same.new ne)) nD, _, upd_same, ?_⟩
                have st : StT Hx (upd (upd Hx e (.tup [.str k0.1, .int lo, .int k0.2.2])) D (.lst (acc ++ [.ref e]))) := ((StT.refl _).new ne).mut (hp_new hD ne) (fun _ z => by cases z)
                rw [List.take_add_one, show (ls.map (relab (mrg lo hi)))[i]? = some (k0.1, lo, k0.2.2) from by rw [List.getElem?_map, el]; show some (k0.1, mrg lo hi k0.2.1, mrg lo hi k0.2.2) = _; unfold mrg; rw [if_pos hu, if_neg hv]]
                exact (ta.st st).snoc ⟨e, rfl, hp_mut upd_same (ne_of_none hD ne).symm⟩
            · rw [decide_eq_false hu]
              refine iteF ?_
              refine ⟨_, rfl, _, rfl, _, rfl, rfl, _, rfl, ?_⟩
              rw [dec_int]
              by_cases hv : k0.2.2 = hi
              · rw [decide_eq_true hv]
                refine iteT ?_
                refine ⟨_, rfl, by show 3 ≤ sizeLine; decide, fun e ne => ?_⟩
                have al := ta.len
                rw [List.length_take, List.length_map] at al
                refine ⟨acc, hp_new hD ne, by rw [sizeLine_eq]; omega, same_mut (sx.trans (Same.new ne)) nD, _, upd_same, ?_⟩
                have st : StT Hx (upd (upd Hx e (.tup [.str k0.1, .int k0.2.1, .int lo])) D (.lst (acc ++ [.ref e]))) := ((StT.refl _).new ne).mut (hp_new hD ne) (fun _ z => by cases z)
                rw [List.take_add_one, show (ls.map (relab (mrg lo hi)))[i]? = some (k0.1, k0.2.1, lo) from by rw [List.getElem?_map, el]; show some (k0.1, mrg lo hi k0.2.1, mrg lo hi k0.2.2) = _; unfold mrg; rw [if_neg hu, if_pos hv]]
                exact (ta.st st).snoc ⟨e, rfl, hp_mut upd_same (ne_of_none hD ne).symm⟩
              · rw [decide_eq_false hv]
                refine iteF ?_
                refine ⟨_, rfl, by show 3 ≤ sizeLine; decide, fun e ne => ?_⟩
                have al := ta.len
                rw [List.length_take, List.length_map] at al
                refine ⟨acc, hp_new hD ne, by rw [sizeLine_eq]; omega, same_mut (sx.trans (Same.new ne)) nD, _, upd_same, ?_⟩
                have st : StT Hx (upd (upd Hx e (.tup [.str k0.1, .int k0.2.1, .int k0.2.2])) D (.lst (acc ++ [.ref e]))) := ((StT.refl _).new ne).mut (hp_new hD ne) (fun _ z => by cases z)
                rw [List.take_add_one, show (ls.map (relab (mrg lo hi)))[i]? = some (k0.1, k0.2.1, k0.2.2) from by rw [List.getElem?_map, el]; show some (k0.1, mrg lo hi k0.2.1, mrg lo hi k0.2.2) = _; unfold mrg; rw [if_neg hu, if_neg hv]]
                exact (ta.st st).snoc ⟨e, rfl, hp_mut upd_same (ne_of_none hD ne).symm⟩
          rintro Hx ⟨sx, acc, hD, ta⟩
          rw [tll, ← List.length_map (f := relab (mrg lo hi)), List.take_length] at ta
          have SS := S8.trans sx
          refine k D acc (ls.map (relab (mrg lo hi))) a3 g3 Hx (SS _ _ W3.pn) (K3.trans (Keep.of SS)) (fun z => by subst z; rw [S8 _ _ W3.pn] at nD; cases nD) hD ta (fun kk hk => ?_) (by rw [List.length_map]; omega) (by omega) (by omega)
          obtain ⟨k0, hk0, rfl⟩ := List.mem_map.mp hk
          have o := lk k0 hk0
          have mm : ∀ t : Int, 0 ≤ t ∧ t ≤ 99 → 0 ≤ mrg lo hi t ∧ mrg lo hi t ≤ 99 := fun t ht => by
            unfold mrg
            split
            · exact lo0
            · exact ht
          exact ⟨o.nm, mm _ o.u, mm _ o.v⟩
        · exact ⟨rfl, S5⟩
      · rw [decide_eq_false z]
        refine iteF ?_
        exact ⟨rfl, Same.refl _⟩
    rintro σ H4 ⟨rfl, s4⟩
    have hl4 := s4 _ _ hl3
    have tl4 := tl3.st (StT.same s4)
    refine ⟨fun σ' H' => σ' = [some (.ref p), some (.ref l), some (.int d), some (.int u), some (.int v), none, none, none, none, none, none, none, none] ∧ Same H3 H' ∧ ls ≠ [], ?_, ?_⟩
    · refine ⟨_, rfl, rfl, _, rfl, ?_⟩
      rw [dec_int]
      have body : ∀ H5, Same H3 H5 → (∀ (R : L2.St → Hp → Prop), True) → True := fun _ _ _ => trivial
      clear body
      by_cases z : d = 1
      · rw [decide_eq_true z]
        refine iteT ?_
        refine ⟨_, rfl, _, rfl, _, rfl, by show 3 ≤ sizeLine; decide, fun t nt => ⟨by show 1 ≤ sizeLine; decide, fun L1 n1 => ?_⟩⟩
        have e1 := Same.new nt (o := .tup [.str "n", .int u, .int v])
        have e2 := e1.trans (Same.new n1 (o := .lst [.ref t]))
        refine ⟨l, L1, _, _, rfl, rfl, e2 _ _ (s4 _ _ hl3), upd_same, by rw [sizeLine_eq]; show _ + 1 ≤ _; omega, fun R nR => ?_⟩
        have e3 := e2.trans (Same.new nR (o := .lst (xs ++ [.ref t])))
        have KK := K3.trans (Keep.of (s4.trans e3))
        exact k R (xs ++ [.ref t]) (ls ++ [(Str.ofString "n", u, v)]) a3 g3 _ ((s4.trans e3) _ _ W3.pn) KK (fun z => by subst z; rw [(s4.trans e2) _ _ W3.pn] at nR; cases nR) upd_same (((tl4).st (StT.same e3)).snoc ⟨t, rfl, hp_new (hp_new upd_same n1) nR⟩) (fun kk hk => by
          rcases List.mem_append.mp hk with hk | hk
          · exact lk kk hk
          · rw [List.mem_singleton.mp hk]
            exact ⟨pp_n, ⟨u0, by show u ≤ 99; omega⟩, ⟨v0, by show v ≤ 99; omega⟩⟩) (by rw [List.length_append]; exact Nat.le_refl _) (by omega) (by omega)
      · rw [decide_eq_false z]
        refine iteF ?_
        refine ⟨_, rfl, by show 0 ≤ sizeLine; decide, fun E0 nE => ?_⟩
        have s5 := s4.trans (Same.new nE (o := .lst []))
        have tl5 := tl3.st (StT.same s5)
        refine ⟨.list (ls.map dL), .list [], .lst (SqL.of (s5 _ _ hl3)) tl5.dp, .lst (SqL.of upd_same) .nil, lks_shaped (fun k hk => (lk k hk).lok), by decide +kernel, _, rfl, ?_⟩
        generalize upd H4 E0 (.lst []) = H5 at s5 tl5 ⊢
        cases ls with
        | nil =>
          refine iteT ?_
          refine ⟨_, rfl, _, rfl, _, rfl, by show 3 ≤ sizeLine; decide, fun t nt => ⟨by show 1 ≤ sizeLine; decide, fun L1 n1 => ?_⟩⟩
          have e1 := Same.new nt (o := .tup [.str "n", .int u, .int v])
          have e2 := e1.trans (Same.new n1 (o := .lst [.ref t]))
          refine ⟨l, L1, _, _, rfl, rfl, e2 _ _ (s5 _ _ hl3), upd_same, by rw [sizeLine_eq]; show _ + 1 ≤ _; omega, fun R nR => ?_⟩
          have e3 := e2.trans (Same.new nR (o := .lst (xs ++ [.ref t])))
          have KK := K3.trans (Keep.of (s5.trans e3))
          exact k R (xs ++ [.ref t]) [(Str.ofString "n", u, v)] a3 g3 _ ((s5.trans e3) _ _ W3.pn) KK (fun z => by subst z; rw [(s5.trans e2) _ _ W3.pn] at nR; cases nR) upd_same (((tl5).st (StT.same e3)).snoc ⟨t, rfl, hp_new (hp_new upd_same n1) nR⟩) (fun kk hk => by
            rw [List.mem_singleton.mp hk]
            exact ⟨pp_n, ⟨u0, by show u ≤ 99; omega⟩, ⟨v0, by show v ≤ 99; omega⟩⟩) (Nat.le_refl _) (by omega) (by omega)
        | cons l0 lr =>
          refine iteF ?_
          exact ⟨rfl, s5, by simp⟩
    rintro σ H5 ⟨rfl, s5, ne⟩
    have hl5 := s5 _ _ hl3
    have tl5 := tl3.st (StT.same s5)
    have W5 := W3.keep s5
    have K5 := K3.trans (Keep.of s5)
    have lpos : 0 < ls.length := List.length_pos_iff.mpr ne
    refine ⟨_, rfl, _, rfl, _, _, rfl, .inl (SqL.of hl5), p, c, ns, a3, g3, _, rfl, by omega, by omega, W5, fun at_ a4 g4 H6 hp6 k6 at0 at1 l6 u6 => ?_⟩
    have W6 := W5.next l6 (by omega) hp6 k6
    have K6 := K5.trans k6
    have hl6 := k6 _ _ hl5 lp
    have tl6 := tl5.st (StT.pen W5 k6)
    obtain ⟨kk, rfl⟩ := Int.eq_ofNat_of_zero_le at0
    have kl : kk < xs.length := by omega
    clear hl5 tl5 W5 K5 s5 k6 hp6 tl3 hl3 K3 W3
    refine gname_nx ?_
    dsimp only
    refine seq_of ?_
    have cl1 := cutV_length xs none (some (kk : Int))
    have cl2 := cutV_length xs (some ((kk : Int) + 1)) none
    have ct : cutV xs none (some (kk : Int)) = xs.take kk := (mid_cut xs kk).1
    have cd : cutV xs (some ((kk : Int) + 1)) none = xs.drop (kk + 1) := (mid_cut xs (kk + 1)).2
    refine ⟨_, rfl, rfl, _, rfl, ?_⟩
    rw [dec_int]
    by_cases z2 : d = 2
    · rw [decide_eq_true z2]
      refine iteT ?_
      refine ⟨_, rfl, _, rfl, _, rfl, l, _, rfl, SqL.of hl6, fun L1 n1 => ?_⟩
      have e1 := Same.new n1 (o := .lst (cutV xs none (some (kk : Int))))
      refine ⟨_, rfl, _, rfl, _, _, rfl, rfl, _, rfl, l, _, rfl, SqL.of (e1 _ _ hl6), fun L2 n2 => ?_⟩
      have e2 := e1.trans (Same.new n2 (o := .lst (cutV xs (some ((kk : Int) + 1)) none)))
      refine ⟨L1, L2, _, _, rfl, rfl, hp_new upd_same n2, upd_same, by rw [sizeLine_eq]; omega, fun R nR => ?_⟩
      have e3 := e2.trans (Same.new nR (o := .lst (cutV xs none (some (kk : Int)) ++ cutV xs (some ((kk : Int) + 1)) none)))
      have hR := upd_same (H := upd (upd H6 L1 (.lst (cutV xs none (some (kk : Int))))) L2 (.lst (cutV xs (some ((kk : Int) + 1)) none))) (a := R) (o := .lst (cutV xs none (some (kk : Int)) ++ cutV xs (some ((kk : Int) + 1)) none))
      have pR : R ≠ p := fun z => by subst z; rw [e2 _ _ W6.pn] at nR; cases nR
      generalize upd (upd (upd H6 L1 (.lst (cutV xs none (some (kk : Int))))) L2 (.lst (cutV xs (some ((kk : Int) + 1)) none))) R (.lst (cutV xs none (some (kk : Int)) ++ cutV xs (some ((kk : Int) + 1)) none)) = H7 at e3 hR ⊢
      rw [ct, cd] at hR
      have t7 := tl6.st (StT.same e3)
      refine k R _ (ls.take kk ++ ls.drop (kk + 1)) a4 g4 H7 (e3 _ _ W6.pn) (K6.trans (Keep.of e3)) pR hR (pair_app (pair_take t7 kk) (pair_drop t7 (kk + 1))) (fun x hx => (List.mem_append.mp hx).elim (fun h => lk x (List.mem_of_mem_take h)) fun h => lk x (List.mem_of_mem_drop h)) ?_ (by omega) (by omega)
      rw [List.length_append, List.length_take, List.length_drop]
      omega
    rw [decide_eq_false z2]
    refine iteF ?_
    obtain ⟨y1, ey1⟩ : ∃ y1, xs[kk]? = some y1 := ⟨_, List.getElem?_eq_getElem kl⟩
    obtain ⟨lk1, el1, q1, rfl, hq1⟩ := pair_at tl6 ey1
    have l1ok := lk lk1 (List.mem_of_getElem? el1)
    refine ⟨_, rfl, rfl, _, rfl, ?_⟩
    rw [dec_int]
    by_cases z3 : d = 3
    · rw [decide_eq_true z3]
      refine iteT ?_
      refine ⟨_, rfl, _, rfl, _, rfl, l, _, rfl, SqL.of hl6, fun L1 n1 => ?_⟩
      have e1 := Same.new n1 (o := .lst (cutV xs none (some (kk : Int))))
      have hl7 := e1 _ _ hl6
      have hq7 := e1 _ _ hq1
      refine ⟨_, rfl, _, rfl, _, _, _, _, rfl, rfl, SqL.of hl7, atI_nat (j := kk) ey1, _, _, _, _, rfl, rfl, SqT.of hq7, rfl, _, rfl, _, rfl, _, rfl, _, _, _, _, rfl, rfl, SqL.of hl7, atI_nat (j := kk) ey1, _, _, _, _, rfl, rfl, SqT.of hq7, rfl, by show 3 ≤ sizeLine; decide, fun t nt => ⟨by show 1 ≤ sizeLine; decide, fun L2 n2 => ?_⟩⟩
      have e2 := e1.trans (Same.new nt (o := .tup [.str lk1.1, .int u, .int lk1.2.2]))
      have e3 := e2.trans (Same.new n2 (o := .lst [.ref t]))
      refine ⟨L1, L2, _, _, rfl, rfl, hp_new (hp_new upd_same nt) n2, upd_same, by rw [sizeLine_eq]; show _ + 1 ≤ _; omega, fun L3 n3 => ?_⟩
      have e4 := e3.trans (Same.new n3 (o := .lst (cutV xs none (some (kk : Int)) ++ [.ref t])))
      refine ⟨_, rfl, _, rfl, _, _, rfl, rfl, _, rfl, l, _, rfl, SqL.of (e4 _ _ hl6), fun L4 n4 => ?_⟩
      have e5 := e4.trans (Same.new n4 (o := .lst (cutV xs (some ((kk : Int) + 1)) none)))
      refine ⟨L3, L4, _, _, rfl, rfl, hp_new upd_same n4, upd_same, by rw [List.length_append, sizeLine_eq]; show _ + 1 + _ ≤ _; omega, fun R nR => ?_⟩
      have e6 := e5.trans (Same.new nR (o := .lst (cutV xs none (some (kk : Int)) ++ [.ref t] ++ cutV xs (some ((kk : Int) + 1)) none)))
      have hR := upd_same (H := upd (upd (upd (upd (upd H6 L1 (.lst (cutV xs none (some (kk : Int))))) t (.tup [.str lk1.1, .int u, .int lk1.2.2])) L2 (.lst [.ref t])) L3 (.lst (cutV xs none (some (kk : Int)) ++ [.ref t]))) L4 (.lst (cutV xs (some ((kk : Int) + 1)) none))) (a := R) (o := .lst (cutV xs none (some (kk : Int)) ++ [.ref t] ++ cutV xs (some ((kk : Int) + 1)) none))
      have pR : R ≠ p := fun z => by subst z; rw [e5 _ _ W6.pn] at nR; cases nR
      have ht := hp_new (o := .lst (cutV xs none (some (kk : Int)) ++ [.ref t] ++ cutV xs (some ((kk : Int) + 1)) none)) (hp_new (o := .lst (cutV xs (some ((kk : Int) + 1)) none)) (hp_new (o := .lst (cutV xs none (some (kk : Int)) ++ [.ref t])) (hp_new (o := .lst [.ref t]) (upd_same (H := upd H6 L1 (.lst (cutV xs none (some (kk : Int))))) (a := t) (o := .tup [.str lk1.1, .int u, .int lk1.2.2])) n2) n3) n4) nR
      generalize upd (upd (upd (upd (upd (upd H6 L1 (.lst (cutV xs none (some (kk : Int))))) t (.tup [.str lk1.1, .int u, .int lk1.2.2])) L2 (.lst [.ref t])) L3 (.lst (cutV xs none (some (kk : Int)) ++ [.ref t]))) L4 (.lst (cutV xs (some ((kk : Int) + 1)) none))) R (.lst (cutV xs none (some (kk : Int)) ++ [.ref t] ++ cutV xs (some ((kk : Int) + 1)) none)) = H7 at e6 hR ht ⊢
      rw [ct, cd] at hR
      have t7 := tl6.st (StT.same e6)
      refine k R _ (ls.take kk ++ [(lk1.1, u, lk1.2.2)] ++ ls.drop (kk + 1)) a4 g4 H7 (e6 _ _ W6.pn) (K6.trans (Keep.of e6)) pR hR (pair_app (Paired.snoc (pair_take t7 kk) ⟨t, rfl, ht⟩) (pair_drop t7 (kk + 1))) (fun x hx => ?_) ?_ (by omega) (by omega)
      · rcases List.mem_append.mp hx with hx | hx
        · rcases List.mem_append.mp hx with hx | hx
          · exact lk x (List.mem_of_mem_take hx)
          · rw [List.mem_singleton.mp hx]
            exact ⟨l1ok.nm, ⟨u0, by show u ≤ 99; omega⟩, l1ok.v⟩
        · exact lk x (List.mem_of_mem_drop hx)
      · rw [List.length_append, List.length_append, List.length_take, List.length_drop]
        show min kk ls.length + 1 + (ls.length - (kk + 1)) ≤ ls.length + 1
        omega
    rw [decide_eq_false z3]
    refine iteF ?_
    refine ⟨_, rfl, _, rfl, _, _, rfl, .inl (SqL.of hl6), p, c, ns, a4, g4, _, rfl, by omega, by omega, W6, fun ot a5 g5 H7 hp7 k7 ot0 ot1 l7 u7 => ?_⟩
    have W7 := W6.next l7 (by omega) hp7 k7
    have K7 := K6.trans k7
    have hl7 := k7 _ _ hl6 lp
    have tl7 := tl6.st (StT.pen W6 k7)
    have hq7 := StT.pen W6 k7 _ _ hq1
    obtain ⟨jj, rfl⟩ := Int.eq_ofNat_of_zero_le ot0
    have jl : jj < xs.length := by omega
    obtain ⟨y2, ey2⟩ : ∃ y2, xs[jj]? = some y2 := ⟨_, List.getElem?_eq_getElem jl⟩
    obtain ⟨lk2, el2, q2, rfl, hq2⟩ := pair_at tl7 ey2
    have l2ok := lk lk2 (List.mem_of_getElem? el2)
    refine gname_nx ?_
    dsimp only
    refine seq_of ?_
    refine ⟨_, rfl, l, _, rfl, .inl (SqL.of hl7), fun F nF => ?_⟩
    refine gname_nx ?_
    dsimp only
    refine seq_of ?_
    have sF := Same.new nF (o := .lst xs)
    have pF : F ≠ p := fun z => by subst z; rw [W7.pn] at nF; cases nF
    have hF := upd_same (H := H7) (a := F) (o := .lst xs)
    have hl8 := sF _ _ hl7
    have hq8 := sF _ _ hq7
    have hr8 := sF _ _ hq2
    have tl8 := tl7.st (StT.same sF)
    have W8 := W7.keep sF
    have Fn7 := nF
    generalize upd H7 F (.lst xs) = H8 at sF hF hl8 hq8 hr8 tl8 W8 ⊢
    refine ⟨_, rfl, _, rfl, _, _, _, _, rfl, rfl, SqL.of hl8, atI_nat (j := jj) ey2, _, _, _, _, rfl, rfl, SqT.of hr8, rfl, _, rfl, _, rfl, _, _, _, _, rfl, rfl, SqL.of hl8, atI_nat (j := kk) ey1, _, _, _, _, rfl, rfl, SqT.of hq8, rfl, _, rfl, _, rfl, _, _, _, _, rfl, rfl, SqL.of hl8, atI_nat (j := kk) ey1, _, _, _, _, rfl, rfl, SqT.of hq8, rfl, by show 3 ≤ sizeLine; decide, fun t nt => ?_⟩
    have hF9 := hp_new (o := .tup [.str lk2.1, .int lk1.2.1, .int lk1.2.2]) hF nt
    have st := Same.new nt (o := .tup [.str lk2.1, .int lk1.2.1, .int lk1.2.2])
    have ht9 := upd_same (H := H8) (a := t) (o := .tup [.str lk2.1, .int lk1.2.1, .int lk1.2.2])
    generalize upd H8 t (.tup [.str lk2.1, .int lk1.2.1, .int lk1.2.2]) = H9 at hF9 st ht9 ⊢
    have Fn : H F = none := keep_none K7 Fn7 pF
    refine ⟨_, rfl, _, rfl, F, xs, _, kk, rfl, rfl, hF9, ixN_at kl, ?_⟩
    dsimp only
    have hF10 := upd_same (H := H9) (a := F) (o := .lst (xs.set kk (.ref t)))
    have mt : StT H9 (upd H9 F (.lst (xs.set kk (.ref t)))) := (StT.refl _).mut hF9 (fun _ z => by cases z)
    have lF : l ≠ F := fun z => by subst z; rw [hl7] at Fn7; cases Fn7
    have hl10 := hp_mut (o := .lst (xs.set kk (.ref t))) (st _ _ hl8) lF
    have hq10 := mt _ _ (st _ _ hq8)
    have hr10 := mt _ _ (st _ _ hr8)
    have ht10 := mt _ _ ht9
    have tl10 := (tl8.st (StT.same st)).st mt
    have K10 := (K7.trans (Keep.of (sF.trans st))).mut (o := .lst (xs.set kk (.ref t))) Fn
    have pn10 := hp_mut (o := .lst (xs.set kk (.ref t))) (st _ _ W8.pn) pF.symm
    generalize upd H9 F (.lst (xs.set kk (.ref t))) = H10 at hF10 hl10 hq10 hr10 ht10 tl10 K10 pn10 ⊢
    clear mt
    refine ⟨_, rfl, _, rfl, _, _, _, _, rfl, rfl, SqL.of hl10, atI_nat (j := kk) ey1, _, _, _, _, rfl, rfl, SqT.of hq10, rfl, _, rfl, _, rfl, _, _, _, _, rfl, rfl, SqL.of hl10, atI_nat (j := jj) ey2, _, _, _, _, rfl, rfl, SqT.of hr10, rfl, _, rfl, _, rfl, _, _, _, _, rfl, rfl, SqL.of hl10, atI_nat (j := jj) ey2, _, _, _, _, rfl, rfl, SqT.of hr10, rfl, by show 3 ≤ sizeLine; decide, fun t2 nt2 => ?_⟩
    have hF11 := hp_new (o := .tup [.str lk1.1, .int lk2.2.1, .int lk2.2.2]) hF10 nt2
    have st2 := Same.new nt2 (o := .tup [.str lk1.1, .int lk2.2.1, .int lk2.2.2])
    have ht11 := upd_same (H := H10) (a := t2) (o := .tup [.str lk1.1, .int lk2.2.1, .int lk2.2.2])
    have pn11 := st2 _ _ pn10
    have ht11' := st2 _ _ ht10
    have tl11 := tl10.st (StT.same st2)
    have K11 := K10.trans (Keep.of st2)
    generalize upd H10 t2 (.tup [.str lk1.1, .int lk2.2.1, .int lk2.2.2]) = H11 at hF11 ht11 pn11 ht11' tl11 K11 ⊢
    refine ⟨_, rfl, _, rfl, F, _, _, jj, rfl, rfl, hF11, ixN_at (by rw [List.length_set]; exact jl), ?_⟩
    have mt : StT H11 (upd H11 F (.lst ((xs.set kk (.ref t)).set jj (.ref t2)))) := (StT.refl _).mut hF11 (fun _ z => by cases z)
    refine ⟨_, rfl, k F _ ((ls.set kk (lk2.1, lk1.2.1, lk1.2.2)).set jj (lk1.1, lk2.2.1, lk2.2.2)) a5 g5 _ (hp_mut pn11 pF.symm) (K11.mut Fn _) pF upd_same (pair_set ⟨t2, rfl, mt _ _ ht11⟩ (pair_set ⟨t, rfl, mt _ _ ht11'⟩ (tl11.st mt))) (fun x hx => ?_) (by rw [List.length_set, List.length_set]; omega) (by omega) (by omega)⟩
    rcases List.mem_or_eq_of_mem_set hx with hx | rfl
    · rcases List.mem_or_eq_of_mem_set hx with hx | rfl
      · exact lk x hx
      · exact ⟨l2ok.nm, l1ok.u, l1ok.v⟩
    · exact ⟨l1ok.nm, l2ok.u, l2ok.v⟩
end
end RR
set_option maxHeartbeats 4000000
namespace RR
open PySem PySem.Spec PyProof.Rows L2
local macro_rules | `(tactic| walk_at "hp") => `(tactic| first | assumption | exact upd_same | (refine hp_new ?_ (by assumption); walk_at "hp") | (refine hp_mut ?_ (by first | assumption | (apply Ne.symm; assumption)); walk_at "hp") | (refine Same.at (by assumption) ?_; walk_at "hp"))
local macro_rules | `(tactic| walk_at "same") => `(tactic| first | exact fun _ _ z => z | assumption | (refine same_new ?_ (by assumption); walk_at "same") | (refine L2.Same.trans ?_ (by assumption); walk_at "same"))
local macro_rules | `(tactic| walk_at "sq") => `(tactic| exact SqL.of (by walk_at "hp"))
local macro_rules | `(tactic| walk_at "sqT") => `(tactic| exact SqT.of (by walk_at "hp"))

open LamX
section
variable {P : Program} {w : World} {K : PySem.W.Frag} {mg : Str → Option Value} {base : Heap}
theorem g__law_pair (T : TX K mg) : FnG P w K mg base CX0 30 T.f__law_pair (spPairP) := by
  refine okG T.F__law_pair sc__law_pair (bd__law_pair T.F__law_pair) (fun vs H Q E h => ?_) (fun cdv A out s H vs Q E hr fr h => ?_)
  · obtain ⟨p, c, ns, a, g, rfl, W, ha, k⟩ := h
    rfl
  · obtain ⟨p, c, ns, a, g, rfl, W, ha, k⟩ := h
    refine ⟨_, (pss_cons (ps_set (i := 1) sc__law_pair.nd rfl (Or.inl rfl) (pe_slice sl_list (pe_callG (g__law_mixed T) (hr.mono (by decide)) fr (by rfl) T.m__law_mixed T.F__law_mixed.kp pass0 (pa_cons (pv 0) (pa_cons (pe_lst (pa_cons pe_str (pa_cons pe_str (pa_cons pe_str (pa_cons pe_str (pa_cons pe_str (pa_cons pe_str pa_nil))))))) pa_nil))) po_none (po_some (pe_op op_add pe_int (pe_callG (g__law_draw T) (hr.mono (by decide)) fr (by rfl) T.m__law_draw T.F__law_draw.kp pass0 (pa_cons (pv 0) (pa_cons pe_int pa_nil)))))))
 (pss_cons (ps_set (i := 2) sc__law_pair.nd rfl (Or.inl rfl) (pe_callG (g__law_links T) (hr.mono (by decide)) fr (by rfl) T.m__law_links T.F__law_links.kp pass0 (pa_cons (pv 0) (pa_cons (pv 1) pa_nil))))
 (pss_cons (ps_if (pt_cmpR op_eq (pe_callG (g__law_draw T) (hr.mono (by decide)) fr (by rfl) T.m__law_draw T.F__law_draw.kp pass0 (pa_cons (pv 0) (pa_cons pe_int pa_nil))) pe_int (nomark _)) (pss_one (ps_ret (pe_lst (pa_cons (pv 2) (pa_cons (pe_callG (g__law_links T) (hr.mono (by decide)) fr (by rfl) T.m__law_links T.F__law_links.kp pass0 (pa_cons (pv 0) (pa_cons (pe_callG (g__law_mixed T) (hr.mono (by decide)) fr (by rfl) T.m__law_mixed T.F__law_mixed.kp pass0 (pa_cons (pv 0) (pa_cons (pv 1) pa_nil))) pa_nil))) pa_nil))))) pss_nil)
 (pss_cons (ps_set (i := 3) sc__law_pair.nd rfl (Or.inl rfl) (pe_callG (g__law_bent T) (hr.mono (by decide)) fr (by rfl) T.m__law_bent T.F__law_bent.kp pass0 (pa_cons (pv 0) (pa_cons (pv 2) pa_nil))))
 (pss_one (ps_ret (pe_lst (pa_cons (pv 2) (pa_cons (pe_ifExp (pt_cmpR op_eq (pe_callG (g__law_draw T) (hr.mono (by decide)) fr (by rfl) T.m__law_draw T.F__law_draw.kp pass0 (pa_cons (pv 0) (pa_cons pe_int pa_nil))) pe_int (nomark _)) (pe_callG (g__law_bent T) (hr.mono (by decide)) fr (by rfl) T.m__law_bent T.F__law_bent.kp pass0 (pa_cons (pv 0) (pa_cons (pv 3) pa_nil))) (pv 3)) pa_nil))))))))), ?_⟩
    refine ⟨_, rfl, by show 6 ≤ sizeLine; decide, fun L0 n0 => ?_⟩
    have b0 := Same.new n0 (o := .lst [.str "a", .str "ab", .str "b", .str "c", .str "m", .str "zz"])
    have L0p : L0 ≠ p := (ne_of_none W.pn n0).symm
    refine ⟨p, c, ns, a, g, L0, [Str.ofString "a", Str.ofString "ab", Str.ofString "b", Str.ofString "c", Str.ofString "m", Str.ofString "zz"], rfl, W.keep b0, upd_same, L0p, by decide, by omega, fun q us a2 g2 H3 hp2 k2 nq hq pm l2 u2 => ?_⟩
    have W2 := (W.keep b0).next l2 (by omega) hp2 k2
    have qp : q ≠ p := fun z => by subst z; rw [b0 _ _ W.pn] at nq; cases nq
    have ul : us.length = 6 := pm.length_eq
    refine ⟨_, rfl, p, c, ns, a2, g2, 5, rfl, by decide, by decide, W2, fun e a3 g3 H4 hp3 k3 e0 e1 l3 u3 => ?_⟩
    have W3 := W2.next l3 (by omega) hp3 k3
    obtain ⟨ee, rfl⟩ := Int.eq_ofNat_of_zero_le e0
    refine ⟨_, _, rfl, rfl, _, rfl, q, _, rfl, SqL.of (k3 _ _ hq qp), fun L1 n1 => ?_⟩
    have ct : cutV (us.map V.str) none (some (1 + (ee : Int))) = (us.take (1 + ee)).map V.str := by
      rw [show (1 + (ee : Int)) = ((1 + ee : Nat) : Int) from by push_cast; rfl, (mid_cut _ _).1, List.map_take]
    have b3 := Same.new n1 (o := .lst (cutV (us.map V.str) none (some (1 + (ee : Int)))))
    have hL1 := upd_same (H := H4) (a := L1) (o := .lst (cutV (us.map V.str) none (some (1 + (ee : Int)))))
    have L1p : L1 ≠ p := (ne_of_none W3.pn n1).symm
    have K5 := ((Keep.of b0).trans k2).trans (k3.trans (Keep.of b3))
    generalize upd H4 L1 (.lst (cutV (us.map V.str) none (some (1 + (ee : Int))))) = H5 at b3 hL1 K5 ⊢
    rw [ct] at hL1
    have tk : (us.take (1 + ee)).length = 1 + ee := by rw [List.length_take]; omega
    have okw : ∀ n ∈ us.take (1 + ee), PP n := fun n hn => pp_abc n (pm.mem_iff.mp (List.mem_of_mem_take hn))
    generalize us.take (1 + ee) = ws at hL1 tk okw
    have W4 := W3.keep b3
    clear ct hq pm k2 k3 hp2 hp3 b0 n0 n1 W2 W3
    refine gname_nx ?_
    dsimp only
    refine seq_of ?_
    refine ⟨_, rfl, _, rfl, p, c, ns, a3, g3, L1, ws, rfl, W4, hL1, L1p, by omega, by omega, okw, by omega, fun r1 xs1 ls1 a5 g5 H6 hp5 k5 rp1 hr1 tl1 lk1 ll1 l5 u5 => ?_⟩
    have W5 := W4.next l5 (by omega) hp5 k5
    have hL5 := k5 _ _ hL1 L1p
    have K6 := K5.trans k5
    have A1 : LkP H6 p r1 ls1 := ⟨rp1, ⟨xs1, hr1, tl1⟩, lk1⟩
    refine gname_nx ?_
    dsimp only
    refine seq_of ?_
    refine ⟨_, rfl, p, c, ns, a5, g5, 3, rfl, by decide, by decide, W5, fun d a7 g7 H8 hp7 k7 d0 d1 l7 u7 => ?_⟩
    have W7 := W5.next l7 (by omega) hp7 k7
    have A7 := A1.pen W5 k7
    have K7 := K6.trans k7
    refine ⟨rfl, _, rfl, ?_⟩
    rw [dec_int]
    by_cases z : d = 0
    · rw [decide_eq_true z]
      refine iteT ?_
      refine ⟨_, rfl, _, rfl, _, rfl, _, rfl, p, c, ns, a7, g7, L1, ws, rfl, W7, k7 _ _ hL5 L1p, L1p, by omega, by omega, fun q us a8 g8 H9 hp8 k8 nq hq pm l8 u8 => ?_⟩
      have W8 := W7.next l8 (by omega) hp8 k8
      have qp : q ≠ p := fun z => by subst z; rw [W7.pn] at nq; cases nq
      have okq : ∀ n ∈ us, PP n := fun n hn => okw n (pm.mem_iff.mp hn)
      have ul2 := pm.length_eq
      refine ⟨p, c, ns, a8, g8, q, us, rfl, W8, hq, qp, by omega, by omega, okq, by omega, fun r3 xs3 ls3 a9 g9 H10 hp9 k9 rp3 hr3 tl3 lk3 ll3 l9 u9 => ?_⟩
      have W9 := W8.next l9 (by omega) hp9 k9
      have A9 := (A7.pen W7 k8).pen W8 k9
      have B9 : LkP H10 p r3 ls3 := ⟨rp3, ⟨xs3, hr3, tl3⟩, lk3⟩
      refine ⟨by show 2 ≤ sizeLine; decide, fun R nR => ?_⟩
      have bR := Same.new nR (o := .lst [.ref r1, .ref r3])
      exact k R r1 r3 ls1 ls3 a9 g9 _ (bR _ _ W9.pn) ((K7.trans (k8.trans k9)).trans (Keep.of bR)) (ne_of_none W9.pn nR).symm upd_same (A9.same bR) (B9.same bR) (by omega) (by omega) (by omega) (by omega)
    rw [decide_eq_false z]
    refine iteF ?_
    obtain ⟨xs7, hr7, tl7⟩ := A7.at_
    refine ⟨_, rfl, _, rfl, p, c, ns, a7, g7, r1, xs7, ls1, rfl, W7, hr7, tl7, A7.ok, A7.ne, by omega, by omega, fun r2 xs2 ls2 a8 g8 H9 hp8 k8 rp2 hr2 tl2 lk2 ll2 l8 u8 => ?_⟩
    have W8 := W7.next l8 (by omega) hp8 k8
    have A8 := A7.pen W7 k8
    have B8 : LkP H9 p r2 ls2 := ⟨rp2, ⟨xs2, hr2, tl2⟩, lk2⟩
    have K8 := K7.trans k8
    refine ⟨_, rfl, _, rfl, p, c, ns, a8, g8, 3, rfl, by decide, by decide, W8, fun e a9 g9 H10 hp9 k9 e0 e1 l9 u9 => ⟨rfl, _, rfl, ?_⟩⟩
    have W9 := W8.next l9 (by omega) hp9 k9
    have A9 := A8.pen W8 k9
    have B9 := B8.pen W8 k9
    have K9 := K8.trans k9
    rw [dec_int]
    by_cases y : e = 0
    · rw [decide_eq_true y]
      refine iteT ?_
      obtain ⟨xs9, hr9, tl9⟩ := B9.at_
      refine ⟨_, rfl, _, rfl, p, c, ns, a9, g9, r2, xs9, ls2, rfl, W9, hr9, tl9, B9.ok, B9.ne, by omega, by omega, fun r4 xs4 ls4 aa ga Ha hpa ka rp4 hr4 tl4 lk4 ll4 la ua => ?_⟩
      have Wa := W9.next la (by omega) hpa ka
      have Ba : LkP Ha p r4 ls4 := ⟨rp4, ⟨xs4, hr4, tl4⟩, lk4⟩
      refine ⟨by show 2 ≤ sizeLine; decide, fun R nR => ?_⟩
      have bR := Same.new nR (o := .lst [.ref r1, .ref r4])
      exact k R r1 r4 ls1 ls4 aa ga _ (bR _ _ Wa.pn) ((K9.trans ka).trans (Keep.of bR)) (ne_of_none Wa.pn nR).symm upd_same ((A9.pen W9 ka).same bR) (Ba.same bR) (by omega) (by omega) (by omega) (by omega)
    rw [decide_eq_false y]
    refine iteF ?_
    refine ⟨_, rfl, by show 2 ≤ sizeLine; decide, fun R nR => ?_⟩
    have bR := Same.new nR (o := .lst [.ref r1, .ref r2])
    exact k R r1 r2 ls1 ls2 a9 g9 _ (bR _ _ W9.pn) (K9.trans (Keep.of bR)) (ne_of_none W9.pn nR).symm upd_same (A9.same bR) (B9.same bR) (by omega) (by omega) (by omega) (by omega)
end
end RR
set_option maxHeartbeats 4000000
namespace RR
open PySem PySem.Spec PyProof.Rows L2
open LamX
/-! ### k52: what the law holds -/
theorem LkP.lo {H : Hp} {p r : Addr} {ls : List Lk} (h : LkP H p r ls) (l : ls.length ≤ 10) : LO H (.ref r) (some ls) ∧ V.ref r ≠ .ref p := by
  obtain ⟨xs, h1, h2⟩ := h.at_
  exact ⟨.inr ⟨r, xs, ls, rfl, rfl, h1, h2, h.ok, l⟩, fun z => h.ne (V.ref.inj z)⟩
structure LSt2 (H : Hp) (p c : Addr) (ns : List Int) (a g : Int) (u1 u2 v1 v2 v3 : V) : Prop where
  W : PenAt H p c ns a g
  m1 : ∃ o, LO H u1 o
  m2 : ∃ o, LO H u2 o
  np1 : u1 ≠ .ref p
  np2 : u2 ≠ .ref p
  g1 : ∃ w, Wd7 H v1 w
  g2 : ∃ w, Wd7 H v2 w
  g3 : ∃ w, Wd7 H v3 w
theorem LSt2.same {H H' : Hp} {p c : Addr} {ns : List Int} {a g : Int} {u1 u2 v1 v2 v3 : V} (B : LSt2 H p c ns a g u1 u2 v1 v2 v3) (s : Same H H') : LSt2 H' p c ns a g u1 u2 v1 v2 v3 :=
  ⟨B.W.keep s, B.m1.imp fun _ h => h.same s, B.m2.imp fun _ h => h.same s, B.np1, B.np2, B.g1.imp fun _ h => h.same s, B.g2.imp fun _ h => h.same s, B.g3.imp fun _ h => h.same s⟩
theorem LSt2.next {H H' : Hp} {p c : Addr} {ns : List Int} {a g a' g' : Int} {u1 u2 v1 v2 v3 : V} (B : LSt2 H p c ns a g u1 u2 v1 v2 v3) (h0 : a ≤ a') (h1 : a' ≤ 100000) (hp : H' p = some (pen c a' g')) (k : Keep p H H') : LSt2 H' p c ns a' g' u1 u2 v1 v2 v3 :=
  ⟨B.W.next h0 h1 hp k, B.m1.imp fun _ h => h.pen B.W k B.np1, B.m2.imp fun _ h => h.pen B.W k B.np2, B.np1, B.np2, B.g1.imp fun _ h => h.pen B.W k, B.g2.imp fun _ h => h.pen B.W k, B.g3.imp fun _ h => h.pen B.W k⟩
theorem right2 {H : Hp} {u1 u2 va vb : V} {Q : VK} {E : XK} (m1 : ∃ o, LO H u1 o) (m2 : ∃ o, LO H u2 o) (ga : ∃ w, Wd7 H va w) (gb : ∃ w, Wd7 H vb w) (k : ∀ H', Same H H' → Q (.bl true) H') : spRightY [u1, u2, va, vb] H Q E := by
  obtain ⟨o1, m1⟩ := m1
  obtain ⟨o2, m2⟩ := m2
  obtain ⟨w1, ga⟩ := ga
  obtain ⟨w2, gb⟩ := gb
  exact ⟨u1, u2, o1, o2, va, vb, _, _, rfl, m1, m2, ga.rt, gb.rt, .inl ⟨strs_nodict w1, strs_nodict w2⟩, k⟩
theorem rightA {H : Hp} {u1 u2 va vb : V} {d : PyData} {Q : VK} {E : XK} (m1 : ∃ o, LO H u1 o) (m2 : ∃ o, LO H u2 o) (ra : Rt H va d) (gb : ∃ w, Wd7 H vb w) (k : ∀ H', Same H H' → Q (.bl true) H') : spRightY [u1, u2, va, vb] H Q E := by
  obtain ⟨o1, m1⟩ := m1
  obtain ⟨o2, m2⟩ := m2
  obtain ⟨w2, gb⟩ := gb
  exact ⟨u1, u2, o1, o2, va, vb, _, _, rfl, m1, m2, ra, gb.rt, (cmp_gd w2 ra).1, k⟩
theorem rightB {H : Hp} {u1 u2 va vb : V} {d : PyData} {Q : VK} {E : XK} (m1 : ∃ o, LO H u1 o) (m2 : ∃ o, LO H u2 o) (ga : ∃ w, Wd7 H va w) (rb : Rt H vb d) (k : ∀ H', Same H H' → Q (.bl true) H') : spRightY [u1, u2, va, vb] H Q E := by
  obtain ⟨o1, m1⟩ := m1
  obtain ⟨o2, m2⟩ := m2
  obtain ⟨w1, ga⟩ := ga
  exact ⟨u1, u2, o1, o2, va, vb, _, _, rfl, m1, m2, ga.rt, rb, (cmp_gd w1 rb).2, k⟩
theorem lo_non {H : Hp} : ∃ o, LO H .non o := ⟨none, .inl ⟨rfl, rfl⟩⟩
theorem lo_nil {H : Hp} {l : Addr} (h : H l = some (.lst [])) : ∃ o, LO H (.ref l) o := ⟨some [], .inr ⟨l, [], [], rfl, rfl, h, .nil, fun k hk => (by cases hk), Nat.zero_le _⟩⟩
theorem wd_nil {H : Hp} {t : Addr} (h : H t = some (.tup [])) : ∃ w, Wd7 H (.ref t) w := ⟨[], t, rfl, h, fun k hk => (by cases hk), Nat.zero_le _⟩
end RR
set_option maxHeartbeats 4000000
namespace RR
open PySem PySem.Spec PyProof.Rows L2
local macro_rules | `(tactic| walk_at "hp") => `(tactic| first | assumption | exact upd_same | (refine hp_new ?_ (by assumption); walk_at "hp") | (refine hp_mut ?_ (by first | assumption | (apply Ne.symm; assumption)); walk_at "hp") | (refine Same.at (by assumption) ?_; walk_at "hp"))
local macro_rules | `(tactic| walk_at "same") => `(tactic| first | exact fun _ _ z => z | assumption | (refine same_new ?_ (by assumption); walk_at "same") | (refine L2.Same.trans ?_ (by assumption); walk_at "same"))
local macro_rules | `(tactic| walk_at "sq") => `(tactic| exact SqL.of (by walk_at "hp"))
local macro_rules | `(tactic| walk_at "sqT") => `(tactic| exact SqT.of (by walk_at "hp"))

open LamX
section
variable {P : Program} {w : World} {K : PySem.W.Frag} {mg : Str → Option Value} {base : Heap}
theorem g_law (T : TX K mg) : FnG P w K mg base CX0 100 T.f_law (spLawN K) := by
  refine okG T.F_law sc_law (bd_law T.F_law) (fun vs H Q E h => ?_) (fun cdv A out s H vs Q E hr fr h => ?_)
  · obtain ⟨sa, ns, rfl, hS, hl, k⟩ := h
    rfl
  · obtain ⟨sa, ns, rfl, hS, hl, k⟩ := h
    refine ⟨_, (pss_cons (ps_set (i := 1) sc_law.nd rfl (Or.inr rfl) (pe_callG (g__law_pen T) (hr.mono (by decide)) fr (by rfl) T.m__law_pen T.F__law_pen.kp pass0 (pa_cons (pv 0) pa_nil)))
 (pss_cons (ps_for PassesOwn.never rfl (pi_range1 (by rfl) T.b_range (pa_cons pe_int pa_nil)) (pg_name (i := 2) sc_law.nd rfl (Or.inl rfl))
 (pss_cons (ps_asg (pe_callG (g__law_pair T) (hr.mono (by decide)) fr (by rfl) T.m__law_pair T.F__law_pair.kp pass0 (pa_cons (pv 1) pa_nil)) (pg_lst (by rfl) (pgs_cons (pg_name (i := 3) sc_law.nd rfl (Or.inl rfl)) (pgs_cons (pg_name (i := 4) sc_law.nd rfl (Or.inl rfl)) pgs_nil))))
 (pss_cons (ps_set (i := 5) sc_law.nd rfl (Or.inl rfl) (pe_callG (g__law_draw T) (hr.mono (by decide)) fr (by rfl) T.m__law_draw T.F__law_draw.kp pass0 (pa_cons (pv 1) (pa_cons pe_int pa_nil))))
 (pss_cons (ps_if (pt_cmpR op_eq (pv 5) pe_int (nomark _)) (pss_one (ps_set (i := 3) sc_law.nd rfl (Or.inl rfl) pe_non)) pss_nil)
 (pss_cons (ps_if (pt_cmpR op_eq (pv 5) pe_int (nomark _)) (pss_one (ps_set (i := 4) sc_law.nd rfl (Or.inl rfl) pe_non)) pss_nil)
 (pss_cons (ps_asg (pe_callG (g__law_good T) (hr.mono (by decide)) fr (by rfl) T.m__law_good T.F__law_good.kp pass0 (pa_cons (pv 1) (pa_cons (pv 3) (pa_cons (pv 4) pa_nil)))) (pg_lst (by rfl) (pgs_cons (pg_name (i := 6) sc_law.nd rfl (Or.inr rfl)) (pgs_cons (pg_name (i := 7) sc_law.nd rfl (Or.inl rfl)) pgs_nil))))
 (pss_cons (ps_set (i := 8) sc_law.nd rfl (Or.inl rfl) (pe_callTy (T := "tuple") (r := rTupOf K) call_tuple_of (by rfl) T.b_tuple (by decide +kernel) (pa_cons (pe_lc (own := [("_law_name", 9)]) (g := (gName 9)) (by rfl) sc_law.nd (pi_list (pe_lst (pa_cons pe_str (pa_cons pe_str (pa_cons pe_str (pa_cons pe_str (pa_cons pe_str (pa_cons pe_str (pa_cons pe_str pa_nil))))))))) (blkOk_by (own := [("_law_name", 9)]) (N := N_law) (sc := defScope s_law) (by decide +kernel)) (fun _ _ _ _ _ => (pg_name (i := 9) sc_law.nd rfl (Or.inl rfl))) (fun _ _ _ _ _ => (pts_one (pt_cmpR (show OpR _ (compareOp .NotIn) (rIn K true) from op_notIn_seq) (pv 9) (pv 6) (by rfl)))) (fun _ _ _ _ _ => (pv 9))) pa_nil)))
 (pss_cons (ps_if (PW.pt (pw_or (pt_not (pt_val (pe_callG (g__law_right T) (hr.mono (by decide)) fr (by rfl) T.m__law_right T.F__law_right.kp pass0 (pa_cons (pv 3) (pa_cons (pv 4) (pa_cons (pv 6) (pa_cons (pv 8) pa_nil))))))) (pw_or1 (pt_not (pt_val (pe_callG (g__law_right T) (hr.mono (by decide)) fr (by rfl) T.m__law_right T.F__law_right.kp pass0 (pa_cons (pv 4) (pa_cons (pv 3) (pa_cons (pv 6) (pa_cons (pv 8) pa_nil)))))))))) (pss_one (ps_ret pe_bl)) pss_nil)
 (pss_one (ps_for PassesOwn.never rfl (pi_range1 (by rfl) T.b_range (pa_cons pe_int pa_nil)) (pg_name (i := 10) sc_law.nd rfl (Or.inl rfl))
 (pss_cons (ps_if (PW.pt (pw_or (pt_not (pt_val (pe_callG (g__law_right T) (hr.mono (by decide)) fr (by rfl) T.m__law_right T.F__law_right.kp pass0 (pa_cons (pv 3) (pa_cons (pv 4) (pa_cons (pv 6) (pa_cons (pv 7) pa_nil))))))) (pw_or1 (pt_not (pt_val (pe_callG (g__law_right T) (hr.mono (by decide)) fr (by rfl) T.m__law_right T.F__law_right.kp pass0 (pa_cons (pv 3) (pa_cons (pv 4) (pa_cons (pv 7) (pa_cons (pv 6) pa_nil)))))))))) (pss_one (ps_ret pe_bl)) pss_nil)
 (pss_cons (ps_set (i := 11) sc_law.nd rfl (Or.inl rfl) (pe_callG (g__law_spoilt T) (hr.mono (by decide)) fr (by rfl) T.m__law_spoilt T.F__law_spoilt.kp pass0 (pa_cons (pv 1) (pa_cons (pv 6) pa_nil))))
 (pss_cons (ps_if (PW.pt (pw_or (pt_not (pt_val (pe_callG (g__law_right T) (hr.mono (by decide)) fr (by rfl) T.m__law_right T.F__law_right.kp pass0 (pa_cons (pv 3) (pa_cons (pv 4) (pa_cons (pv 11) (pa_cons (pv 8) pa_nil))))))) (pw_or1 (pt_not (pt_val (pe_callG (g__law_right T) (hr.mono (by decide)) fr (by rfl) T.m__law_right T.F__law_right.kp pass0 (pa_cons (pv 3) (pa_cons (pv 4) (pa_cons (pv 11) (pa_cons (pv 7) pa_nil)))))))))) (pss_one (ps_ret pe_bl)) pss_nil)
 (pss_cons (ps_if (pt_not (pt_val (pe_callG (g__law_right T) (hr.mono (by decide)) fr (by rfl) T.m__law_right T.F__law_right.kp pass0 (pa_cons (pv 3) (pa_cons (pv 4) (pa_cons (pv 6) (pa_cons (pe_callG (g__law_spoilt T) (hr.mono (by decide)) fr (by rfl) T.m__law_spoilt T.F__law_spoilt.kp pass0 (pa_cons (pv 1) (pa_cons (pv 7) pa_nil))) pa_nil))))))) (pss_one (ps_ret pe_bl)) pss_nil)
 (pss_one (ps_set (i := 7) sc_law.nd rfl (Or.inl rfl) (pe_callTy (T := "tuple") (r := rTupOf K) call_tuple_of (by rfl) T.b_tuple (by decide +kernel) (pa_cons (pe_lc (own := [("_law_name", 9)]) (g := (gName 9)) (by rfl) sc_law.nd (show PI _ _ _ (iTup K (tVar 7)) from pi_tup (pv 7)) (blkOk_by (own := [("_law_name", 9)]) (N := N_law) (sc := defScope s_law) (by decide +kernel)) (fun _ _ _ _ _ => (pg_name (i := 9) sc_law.nd rfl (Or.inl rfl))) (fun _ _ _ _ _ => (pts_one (pt_cmpR op_gt (pe_callG (g__law_draw T) (hr.mono (by decide)) fr (by rfl) T.m__law_draw T.F__law_draw.kp pass0 (pa_cons (pv 1) (pa_cons pe_int pa_nil))) pe_int (nomark _)))) (fun _ _ _ _ _ => (pv 9))) pa_nil))))))))))))))))))
 (pss_cons (ps_if (PW.pt (pw_or (pt_not (pt_val (pe_callG (g__law_right T) (hr.mono (by decide)) fr (by rfl) T.m__law_right T.F__law_right.kp pass0 (pa_cons (pe_lst pa_nil) (pa_cons (pe_lst pa_nil) (pa_cons (pe_tup pa_nil) (pa_cons (pe_tup pa_nil) pa_nil))))))) (pw_or1 (pt_not (pt_val (pe_callG (g__law_right T) (hr.mono (by decide)) fr (by rfl) T.m__law_right T.F__law_right.kp pass0 (pa_cons pe_non (pa_cons pe_non (pa_cons (pe_tup pa_nil) (pa_cons (pe_tup pa_nil) pa_nil)))))))))) (pss_one (ps_ret pe_bl)) pss_nil)
 (pss_one (ps_ret (pe_callG (g__law_right T) (hr.mono (by decide)) fr (by rfl) T.m__law_right T.F__law_right.kp pass0 (pa_cons pe_non (pa_cons (pe_lst pa_nil) (pa_cons (pe_tup pa_nil) (pa_cons (pe_tup pa_nil) pa_nil)))))))))), ?_⟩
    refine ⟨_, rfl, sa, ns, rfl, hS, hl, fun p c H1 s1 np nc W => ?_⟩
    refine ⟨5, rfl, by decide, by decide, ?_⟩
    refine for_range (lo := 0) (n := 5) (fun i σ H => ∃ y2 y3 y4 y5 y6 y7 y8 y9 y10 y11 a g, σ = [some (.ref sa), some (.ref p), y2, y3, y4, y5, y6, y7, y8, y9, y10, y11] ∧ PenAt H p c ns a g ∧ a ≤ 2000 * (i : Nat)) ⟨_, _, _, _, _, _, _, _, _, _, 0, 0, rfl, W, by decide⟩ ?_ ?_
    · rintro i σ H2 hi ⟨y2, y3, y4, y5, y6, y7, y8, y9, y10, y11, a, g, rfl, W1, la⟩
      refine gname_nx ?_
      dsimp only
      refine seq_of ?_
      refine ⟨_, rfl, p, c, ns, a, g, rfl, W1, by omega, fun q r1 r2 ls1 ls2 a2 g2 H3 hp2 k2 qp hq A1 A2 n1 n2 l2 u2 => ?_⟩
      have W2 := W1.next l2 (by omega) hp2 k2
      refine ⟨q, _, rfl, SqL.of hq, rfl, _, _, rfl, _, _, rfl, rfl, ?_⟩
      dsimp only
      refine seq_of ?_
      refine ⟨_, rfl, p, c, ns, a2, g2, 9, rfl, by decide, by decide, W2, fun d a3 g3 H4 hp3 k3 d0 d1 l3 u3 => ?_⟩
      have W3 := W2.next l3 (by omega) hp3 k3
      have B1 := (A1.pen W2 k3).lo (by omega)
      have B2 := (A2.pen W2 k3).lo (by omega)
      clear hp2 hp3 k2 k3 hq A1 A2 W2
      refine gname_nx ?_
      dsimp only
      refine seq_of ?_
      refine ifs_by3 (fun σ' => ∃ u1, σ' = [some (.ref sa), some (.ref p), some (.int (0 + (i : Int))), some u1, some (.ref r2), some (.int d), y6, y7, y8, y9, y10, y11] ∧ (∃ o, LO H4 u1 o) ∧ u1 ≠ .ref p) (fun D' hD' => ?_) ?_
      · refine ⟨_, rfl, rfl, _, rfl, ?_⟩
        rw [dec_int]
        by_cases z : d = 0
        · rw [decide_eq_true z]
          refine iteT ?_
          exact hD' _ ⟨.non, rfl, lo_non, fun z => by cases z⟩
        · rw [decide_eq_false z]
          refine iteF ?_
          exact hD' _ ⟨_, rfl, ⟨_, B1.1⟩, B1.2⟩
      rintro σ' ⟨u1, rfl, M1, np1⟩
      dsimp only
      refine seq_of ?_
      refine ifs_by3 (fun σ' => ∃ u2, σ' = [some (.ref sa), some (.ref p), some (.int (0 + (i : Int))), some u1, some u2, some (.int d), y6, y7, y8, y9, y10, y11] ∧ (∃ o, LO H4 u2 o) ∧ u2 ≠ .ref p) (fun D' hD' => ?_) ?_
      · refine ⟨_, rfl, rfl, _, rfl, ?_⟩
        rw [dec_int]
        by_cases z : d = 1
        · rw [decide_eq_true z]
          refine iteT ?_
          exact hD' _ ⟨.non, rfl, lo_non, fun z => by cases z⟩
        · rw [decide_eq_false z]
          refine iteF ?_
          exact hD' _ ⟨_, rfl, ⟨_, B2.1⟩, B2.2⟩
      rintro σ' ⟨u2, rfl, M2, np2⟩
      obtain ⟨o1, M1⟩ := M1
      obtain ⟨o2, M2⟩ := M2
      dsimp only
      refine seq_of ?_
      refine ⟨_, rfl, _, rfl, _, rfl, p, c, ns, a3, g3, u1, u2, o1, o2, rfl, W3, M1, M2, by omega, np1, np2, fun q5 v1 v2 w1 w2 a5 g5 H5 hp5 k5 qp5 hq5 G1 G2 l5 u5 => ?_⟩
      have W5 := W3.next l5 (by omega) hp5 k5
      have M1 := M1.pen W3 k5 np1
      have M2 := M2.pen W3 k5 np2
      refine ⟨q5, _, rfl, SqL.of hq5, rfl, _, _, rfl, _, _, rfl, rfl, ?_⟩
      dsimp only
      refine seq_of ?_
      obtain ⟨b, rfl, hb, b7, bl⟩ := id G1
      refine ⟨by show 7 ≤ sizeLine; decide, fun N nN => ?_⟩
      have sN := Same.new nN (o := .lst [.str "a", .str "ab", .str "b", .str "c", .str "m", .str "n", .str "zz"])
      have hN : upd H5 N (.lst [.str "a", .str "ab", .str "b", .str "c", .str "m", .str "n", .str "zz"]) N = some (.lst (nextL.map V.str)) := upd_same
      generalize upd H5 N (.lst [.str "a", .str "ab", .str "b", .str "c", .str "m", .str "n", .str "zz"]) = H7 at sN hN ⊢
      refine ⟨N, rfl, ⟨_, SqL.of hN⟩, fun E nE => ?_⟩
      refine lc_list (xs := nextL.map V.str) (fun i H' => Same H7 H' ∧ H' E = some (.lst (((nextL.take i).filter fun n => !decide (n ∈ w1)).map V.str))) ⟨Same.new nE, by rw [List.take_zero]; exact upd_same⟩ (fun i H' _ z => SqL.of (z.1 _ _ hN)) ?_ ?_
      · rintro i8 y H8 hy ⟨s8, hE⟩
        rw [List.getElem?_map] at hy
        obtain ⟨n, en, rfl⟩ := Option.map_eq_some_iff.mp hy
        have fl := List.length_filter_le (fun n => !decide (n ∈ w1)) (nextL.take i8)
        have n7 : nextL.length = 7 := rfl
        rw [List.length_take] at fl
        refine ⟨rfl, _, rfl, _, rfl, b, _, rfl, .inr (SqT.of (s8 _ _ (sN _ _ hb))), rfl, flat_nmsX _, _, rfl, ?_⟩
        rw [if_pos rfl, inV_nmsX]
        by_cases z : n ∈ w1
        · rw [decide_eq_true z]
          refine iteF ?_
          refine ⟨s8, ?_⟩
          rw [filter_snocB en, if_neg (by rw [decide_eq_true z]; decide), List.append_nil]
          exact hE
        · rw [decide_eq_false z]
          refine iteT ?_
          refine ⟨_, rfl, _, hE, by rw [List.length_map, sizeLine_eq]; omega, same_mut s8 nE, ?_⟩
          rw [upd_same, filter_snocB en, if_pos (by rw [decide_eq_false z]; rfl), List.map_append]
          rfl
      rintro H8 ⟨s8, hE⟩
      rw [List.length_map, List.take_length] at hE
      have n7 : ∀ n ∈ nextL.filter fun n => !decide (n ∈ w1), n ∈ seven := fun n hn => next7 n (List.mem_filter.mp hn).1
      have l7 : (nextL.filter fun n => !decide (n ∈ w1)).length ≤ 7 := List.length_filter_le _ _
      generalize (nextL.filter fun n => !decide (n ∈ w1)) = ms at hE n7 l7
      refine ⟨E, _, rfl, .inl ⟨SqL.of hE, fun r3 nr => ?_⟩⟩
      have sr := Same.new nr (o := .tup (ms.map V.str))
      have S9 := (sN.trans s8).trans sr
      have B0 : LSt2 _ p c ns a5 g5 u1 u2 (.ref b) v2 (.ref r3) := ⟨W5.keep S9, ⟨_, M1.same S9⟩, ⟨_, M2.same S9⟩, np1, np2, ⟨_, G1.same S9⟩, ⟨_, G2.same S9⟩, ⟨ms, r3, rfl, upd_same, n7, by omega⟩⟩
      generalize upd H8 r3 (.tup (ms.map V.str)) = H9 at B0 ⊢
      clear sN s8 sr S9 hN hE W5 W3 M1 M2 G1 G2 hp5 k5 hq5 B1 B2 hb nE nr nN
      refine gname_nx ?_
      dsimp only
      refine seq_of ?_
      refine ⟨_, rfl, _, rfl, _, rfl, _, rfl, ?_⟩
      dsimp only [tNil]
      refine right2 B0.m1 B0.m2 B0.g1 B0.g3 fun H10 s10 => ?_
      refine ⟨_, rfl, ?_⟩
      refine iteF ?_
      have B1 := B0.same s10
      refine ⟨_, rfl, _, rfl, _, rfl, _, rfl, ?_⟩
      dsimp only [tNil]
      refine right2 B1.m2 B1.m1 B1.g1 B1.g3 fun H11 s11 => ?_
      refine ⟨_, rfl, ?_⟩
      refine iteF ?_
      have B2 := B1.same s11
      clear B0 B1
      dsimp only [tNext]
      refine ⟨3, rfl, by decide, by decide, ?_⟩
      refine for_range (lo := 0) (n := 3) (fun k σ H' => ∃ v2 y9 y10 y11 a' g', σ = [some (.ref sa), some (.ref p), some (.int (0 + (i : Int))), some u1, some u2, some (.int d), some (.ref b), some v2, some (.ref r3), y9, y10, y11] ∧ LSt2 H' p c ns a' g' u1 u2 (.ref b) v2 (.ref r3) ∧ a' ≤ a + 300 + 50 * (k : Nat)) ⟨_, _, _, _, _, _, rfl, B2, by omega⟩ ?_ ?_
      · rintro k1 σ H12 hk ⟨v2, y9, y10, y11, a12, g12, rfl, B, lb⟩
        clear B2
        refine gname_nx ?_
        dsimp only
        refine seq_of ?_
        refine ⟨_, rfl, _, rfl, _, rfl, _, rfl, ?_⟩
        dsimp only [tNil]
        refine right2 B.m1 B.m2 B.g1 B.g2 fun H13 s13 => ?_
        refine ⟨_, rfl, ?_⟩
        refine iteF ?_
        have B := B.same s13
        refine ⟨_, rfl, _, rfl, _, rfl, _, rfl, ?_⟩
        dsimp only [tNil]
        refine right2 B.m1 B.m2 B.g2 B.g1 fun H14 s14 => ?_
        refine ⟨_, rfl, ?_⟩
        refine iteF ?_
        have B := B.same s14
        dsimp only [tNext]
        refine seq_of ?_
        obtain ⟨w1, G1⟩ := B.g1
        refine ⟨_, rfl, _, rfl, p, c, ns, a12, g12, .ref b, w1, rfl, B.W, G1, by omega, fun r15 d15 a15 g15 H15 hp15 k15 R15 nr15 l15 u15 => ?_⟩
        have B := B.next l15 (by omega) hp15 k15
        refine gname_nx ?_
        dsimp only
        refine seq_of ?_
        refine ⟨_, rfl, _, rfl, _, rfl, _, rfl, ?_⟩
        dsimp only [tNil]
        refine rightA B.m1 B.m2 R15 B.g3 fun H16 s16 => ?_
        refine ⟨_, rfl, ?_⟩
        refine iteF ?_
        have B := B.same s16
        refine ⟨_, rfl, _, rfl, _, rfl, _, rfl, ?_⟩
        dsimp only [tNil]
        refine rightA B.m1 B.m2 (R15.st s16) B.g2 fun H17 s17 => ?_
        refine ⟨_, rfl, ?_⟩
        refine iteF ?_
        have B := B.same s17
        dsimp only [tNext]
        refine seq_of ?_
        obtain ⟨w2, G2⟩ := B.g2
        refine ⟨_, rfl, _, rfl, _, rfl, _, rfl, _, rfl, p, c, ns, a15, g15, v2, w2, rfl, B.W, G2, by omega, fun r18 d18 a18 g18 H18 hp18 k18 R18 nr18 l18 u18 => ?_⟩
        have G2 := G2.pen B.W k18
        have B := B.next l18 (by omega) hp18 k18
        dsimp only [tNil]
        refine rightB B.m1 B.m2 B.g1 R18 fun H19 s19 => ?_
        refine ⟨_, rfl, ?_⟩
        refine iteF ?_
        have B := B.same s19
        have G2 := G2.same s19
        dsimp only [tNext]
        obtain ⟨b2, rfl, hb2, c7, cl⟩ := id G2
        refine ⟨_, rfl, b2, rfl, ⟨_, SqT.of hb2⟩, fun F nF => ?_⟩
        have Fp : F ≠ p := (ne_of_none B.W.pn nF).symm
        have sF := Same.new nF (o := .lst [])
        have Fc : F ≠ c := fun z => by
          have := B.W.cs
          rw [← z, nF] at this
          cases this
        have b2p : b2 ≠ p := fun z => G2.np B.W (by rw [z])
        refine lc_tup (xs := w2.map V.str) (fun i H' => ∃ a' g' us, PenAt H' p c ns a' g' ∧ Keep p H19 H' ∧ a18 ≤ a' ∧ a' ≤ a18 + i ∧ H' F = some (.lst ((us : List Str).map V.str)) ∧ (∀ n ∈ us, n ∈ w2) ∧ us.length ≤ i) ⟨a18, g18, [], B.W.keep sF, Keep.of sF, Int.le_refl _, by omega, upd_same, fun n hn => (by cases hn), Nat.le_refl _⟩ (fun i H' _ z => by obtain ⟨_, _, _, _, K, _⟩ := z; exact SqT.of (K _ _ hb2 b2p)) ?_ ?_
        · rintro i9 y H20 hy ⟨a20, g20, us, W20, K20, la20, ua20, hF, um, ul⟩
          rw [List.getElem?_map] at hy
          obtain ⟨n, en, rfl⟩ := Option.map_eq_some_iff.mp hy
          have nm := List.mem_of_getElem? en
          have il := (List.getElem?_eq_some_iff.mp en).1
          refine ⟨rfl, _, rfl, p, c, ns, a20, g20, 4, rfl, by decide, by decide, W20, fun e a21 g21 H21 hp21 k21 e0 e1 l21 u21 => ?_⟩
          have W21 := W20.next l21 (by omega) hp21 k21
          have hF21 := k21 _ _ hF Fp
          refine ⟨_, _, rfl, rfl, _, rfl, ?_⟩
          by_cases z : 0 < e
          · rw [decide_eq_true z]
            refine iteT ?_
            refine ⟨_, rfl, _, hF21, by rw [List.length_map, sizeLine_eq]; omega, a21, g21, us ++ [n], W21.mut Fp Fc _, (K20.trans k21).mut nF _, by omega, by omega, by rw [upd_same, List.map_append]; rfl, fun m hm => ?_, by rw [List.length_append]; show _ + 1 ≤ _; omega⟩
            rcases List.mem_append.mp hm with hm | hm
            · exact um m hm
            · rw [List.mem_singleton.mp hm]; exact nm
          · rw [decide_eq_false z]
            refine iteF ?_
            exact ⟨a21, g21, us, W21, K20.trans k21, by omega, by omega, hF21, um, by omega⟩
        rintro H20 ⟨a20, g20, us, W20, K20, la20, ua20, hF, um, ul⟩
        rw [List.length_map] at ul ua20
        have B := B.next la20 (by omega) W20.pn K20
        refine ⟨F, _, rfl, .inl ⟨SqL.of hF, fun r4 nr => ?_⟩⟩
        have sr := Same.new nr (o := .tup (us.map V.str))
        have B := B.same sr
        exact ⟨.ref r4, _, _, _, a20, g20, rfl, ⟨B.W, B.m1, B.m2, B.np1, B.np2, B.g1, ⟨us, r4, rfl, upd_same, fun n hn => c7 n (um n hn), by omega⟩, B.g3⟩, by omega⟩
      rintro σ H12 ⟨v2, y9, y10, y11, a12, g12, rfl, B, lb⟩
      exact ⟨_, _, _, _, _, _, _, _, _, _, a12, g12, rfl, B.W, by push_cast; omega⟩
    rintro σ H2 ⟨y2, y3, y4, y5, y6, y7, y8, y9, y10, y11, a, g, rfl, W1, la⟩
    clear W1 W la s1
    dsimp only
    refine seq_of ?_
    refine ⟨by show 0 ≤ sizeLine; decide, fun l1 m1 => ?_⟩
    have h1 := upd_same (H := H2) (a := l1) (o := .lst [])
    generalize upd H2 l1 (.lst []) = H3 at h1 ⊢
    refine ⟨by show 0 ≤ sizeLine; decide, fun l2 m2 => ?_⟩
    have h2 := upd_same (H := H3) (a := l2) (o := .lst [])
    have h1 := (Same.new m2 (o := .lst [])) _ _ h1
    generalize upd H3 l2 (.lst []) = H4 at h1 h2 ⊢
    refine ⟨by show 0 ≤ sizeLine; decide, fun t1 m3 => ?_⟩
    have h3 := upd_same (H := H4) (a := t1) (o := .tup [])
    have h1 := (Same.new m3 (o := .tup [])) _ _ h1
    have h2 := (Same.new m3 (o := .tup [])) _ _ h2
    generalize upd H4 t1 (.tup []) = H5 at h1 h2 h3 ⊢
    refine ⟨by show 0 ≤ sizeLine; decide, fun t2 m4 => ?_⟩
    have h4 := upd_same (H := H5) (a := t2) (o := .tup [])
    have s4 := Same.new m4 (o := .tup [])
    dsimp only [tNil]
    refine right2 (lo_nil (s4 _ _ h1)) (lo_nil (s4 _ _ h2)) (wd_nil (s4 _ _ h3)) (wd_nil h4) fun H6 s6 => ?_
    clear h1 h2 h3 h4 s4
    refine ⟨_, rfl, ?_⟩
    refine iteF ?_
    refine ⟨by show 0 ≤ sizeLine; decide, fun t3 m5 => ?_⟩
    have h3 := upd_same (H := H6) (a := t3) (o := .tup [])
    generalize upd H6 t3 (.tup []) = H7 at h3 ⊢
    refine ⟨by show 0 ≤ sizeLine; decide, fun t4 m6 => ?_⟩
    dsimp only [tNil]
    refine right2 lo_non lo_non (wd_nil ((Same.new m6) _ _ h3)) (wd_nil upd_same) fun H8 s8 => ?_
    clear h3
    refine ⟨_, rfl, ?_⟩
    refine iteF ?_
    dsimp only [tNext]
    refine ⟨by show 0 ≤ sizeLine; decide, fun l3 m7 => ?_⟩
    have h1 := upd_same (H := H8) (a := l3) (o := .lst [])
    generalize upd H8 l3 (.lst []) = H9 at h1 ⊢
    refine ⟨by show 0 ≤ sizeLine; decide, fun t5 m8 => ?_⟩
    have h2 := upd_same (H := H9) (a := t5) (o := .tup [])
    have h1 := (Same.new m8 (o := .tup [])) _ _ h1
    generalize upd H9 t5 (.tup []) = H10 at h1 h2 ⊢
    refine ⟨by show 0 ≤ sizeLine; decide, fun t6 m9 => ?_⟩
    have s9 := Same.new m9 (o := .tup [])
    dsimp only [tNil]
    exact right2 lo_non (lo_nil (s9 _ _ h1)) (wd_nil (s9 _ _ h2)) (wd_nil upd_same) fun H11 s11 => k H11
end
end RR
set_option maxHeartbeats 4000000
namespace RR
open PySem PySem.Spec PyProof.Rows L2
local macro_rules | `(tactic| walk_at "hp") => `(tactic| first | assumption | exact upd_same | (refine hp_new ?_ (by assumption); walk_at "hp") | (refine hp_mut ?_ (by first | assumption | (apply Ne.symm; assumption)); walk_at "hp") | (refine Same.at (by assumption) ?_; walk_at "hp"))
local macro_rules | `(tactic| walk_at "same") => `(tactic| first | exact fun _ _ z => z | assumption | (refine same_new ?_ (by assumption); walk_at "same") | (refine L2.Same.trans ?_ (by assumption); walk_at "same"))
local macro_rules | `(tactic| walk_at "sq") => `(tactic| exact SqL.of (by walk_at "hp"))
local macro_rules | `(tactic| walk_at "sqT") => `(tactic| exact SqT.of (by walk_at "hp"))

open LamX
theorem walk {l : PySem.W.OpenLaw} {qq : Program} {loose : List Str} {XP : (Str → Option Value) → Heap → Prop} {YP : World → Heap → Prop} {d : DefRec} {K : Params → PySem.W.Frag} (hn : l.most = some 63) (hdf : d.params.defaults = []) (hY : ∀ (w : World) (h : Heap), YP w h → (K w.params).In h)
    (F : ∀ (w : World) (mg : Str → Option Value) (fa : Addr) (h : Heap), (K w.params).In h → h.Ns mainGlobals mg → mg d.name = some (.ref fa) → ∃ T : TX (K w.params) mg, T.f_law = fa) : PySem.W.WalkO qq loose XP YP l.row.toRowW d [] (fun f vs => PySem.call f vs) := by
  refine walkG (n := 63) (k := 100) (g := spLawN) hn (by decide) hdf ⟨rfl, by decide, by decide⟩ hY (fun w mg fa h KX G hmg base _ _ => ?_) fun K H a ns hl hS => ⟨a, ns, rfl, hS, hl, fun _ => rfl⟩
  obtain ⟨T, rfl⟩ := F w mg fa h KX G hmg
  exact g_law T
end RR
open PySem PySem.W PyProof.Rows
theorem PySem.Challenge.cw_sixasone_k52_ways_and_cuts_looked_at_holds : PySem.Challenge.rw_sixasone_k52_ways_and_cuts_looked_at.Holds := by
  exact RR.head_of (fun a b c => RR.walk (l := PySem.Challenge.rw_sixasone_k52_ways_and_cuts_looked_at) rfl a b c)
