import PyProof.Rows.All
import Wide.All
import OpenK.AllK
import Wide.FinOn
import HandS.ForMost
import HandS.Exc
import HandS.Defaults
import HandS.Property
import HandS.ClsMeth
import HandS.ExcInit
import HandS.Head0
import HandS.Head1
import HandS.Head2
import HandS.Head3
import HandS.HeadEnd
import HandS.HeadHook1
import HandS.HeadHook2
import HandS.Wide
import HandS.WideMore
import HandS.Gcd
import HandS.IsInst
import HandS.Style
import HandS.WordsExc
import HandS.CallSlots
import HandS.MakeKw
import HandS.Zip
import KE.KOpsOwn
import HandS.RaiseMore
import HandS.ExcOwn
import HandS.OwnEq
import KE.KMathGC
import HandS.MakeKwOnly
import HandS.TryOnly
import HandS.Walk
import HandS.TryMany
import HandS.ExcField
import HandS.Text
import HandS.StrMore
import HandS.Codes
import HandS.FStr
import HandS.Steps
import PySem.Challenge.RW_winoften_k03_texts_of_ratios
set_option Elab.async false
set_option linter.all false
set_option maxRecDepth 100000
set_option maxHeartbeats 4000000
/-! The head: what the top leaves, told by tests of one's own and by functions found by a path. -/
namespace WH
open PySem PySem.Spec PyProof.Rows L2
abbrev Fg := PySem.W.Frag
/-- the address that the module's name x stands for; that of the attribute m of the class at C; the getter of a property; the def of a class method -/
def gAd (x : Str) (K : Fg) : Addr := He.ga K x
def mAd (x m : Str) (K : Fg) : Addr := He.ma K (He.ga K x) m
def rAd (T : String) (x m : Str) (K : Fg) : Addr := match PySem.W.recIn K (mAd x m K) T with
  | some (.ref g :: _) => g
  | _ => 0
/-- a def of the text, and where its function object is found -/
structure Df where
  ad : Fg → Addr
  name : Str
  qual : Str
  st : Stmt
  dfl : List V := []
abbrev FnSeen : Type := Option (Str × Str × Arguments × FuncBody × Scope × Addr × List (Str × Addr) × Addr)
def seenAt (K : Fg) (a : Addr) : FnSeen := (K.lookup a).bind fun o => match o.data with
  | .func fd => some (fd.name, fd.qualname, fd.params, fd.body, fd.scope, fd.globals, fd.closure, fd.builtins)
  | _ => none
def Df.want (d : Df) : FnSeen := some (d.name, d.qual, defArgs d.st, .stmts (defBody d.st), defScope d.st, mainGlobals, [], builtinsNs)
def Df.good (K : Fg) (d : Df) : Bool := PySem.W.keepIn K (.ref (d.ad K)) && match K.lookup (d.ad K) with
  | some ⟨_, _, .func fd, _⟩ => PySem.W.codeIn K fd.code d.qual && He.dflB K fd.defaults d.dfl
  | _ => false
abbrev FnP (K : Fg) (x qual : Str) (st : Stmt) (dvs : List V) (f : Addr) (fd : FuncData) : Prop := FunD K x qual (defArgs st) (defBody st) (defScope st) dvs [] f fd
theorem Df.fun_ {K : Fg} {d : Df} (e : seenAt K (d.ad K) = d.want) (c : d.good K = true) : ∃ fd, FnP K d.name d.qual d.st d.dfl (d.ad K) fd := by
  obtain ⟨kp, c2⟩ := Bool.and_eq_true_iff.mp c
  cases q : K.lookup (d.ad K) with
  | none => rw [q] at c2; cases c2
  | some o =>
    obtain ⟨oc, od, dt, osl⟩ := o
    unfold seenAt at e
    rw [q] at c2 e
    cases dt with
    | func fd =>
      obtain ⟨n1, n2, n3, n4, n5, n6, n7, n8, n9, n10, n11, n12, n13, n14, n15⟩ := fd
      have e2 : (some (n1, n2, n3, n4, n5, n6, n7, n15) : FnSeen) = some (d.name, d.qual, defArgs d.st, .stmts (defBody d.st), defScope d.st, mainGlobals, [], builtinsNs) := e
      injection e2 with e2
      simp only [Prod.mk.injEq] at e2
      obtain ⟨h1, h2, h3, h4, h5, h6, h7, h8⟩ := e2
      subst h1 h2 h3 h4 h5 h6 h7 h8
      obtain ⟨k1, k2⟩ := Bool.and_eq_true_iff.mp (show (PySem.W.codeIn K n13 d.qual && He.dflB K n8 d.dfl) = true from c2)
      exact ⟨_, ⟨oc, od, n8, n9, n10, n11, n12, n13, n14, osl, rfl, q, k1, He.dflB_ok k2, .inl rfl⟩, kp⟩
    | _ => cases c2
/-! the hook -/
def look (cs : List (Fg → Bool)) (fn : List Df) (K : Fg) : Bool × List FnSeen := ((cs.all fun c => c K) && fn.all fun d => d.good K, fn.map fun d => seenAt K (d.ad K))
def want (fn : List Df) : Bool × List FnSeen := (true, fn.map Df.want)
def Tells (cs : List (Fg → Bool)) (fn : List Df) (K : Fg) : Prop := look cs fn K = want fn
def lookG (n : Nat) (cs : List (Fg → Bool)) (fn : List Df) (g : Addr → Option Obj) : Bool × List FnSeen := look cs fn (He.frG g (cStatics :: He.asD g n))
def hook (n : Nat) (cs : List (Fg → Bool)) (fn : List Df) : PySem.W.Hook where
  α := Bool × List FnSeen
  obs := fun s => lookG n cs fn s.heap.get?
  val := fun _ => want fn
  says := fun _ h => ∃ K : Fg, K.In h ∧ Tells cs fn K
  of := fun _ _ e => ⟨_, He.frG_in, e⟩
  keeps := fun _ _ _ ⟨K, hK, c⟩ k => ⟨K, PySem.W.Frag.In.keeps hK k, c⟩
theorem lookG_eq {n : Nat} {cs : List (Fg → Bool)} {fn : List Df} {g : Addr → Option Obj} {s : Shared} (h : ∀ a, g a = s.heap.get? a) : lookG n cs fn g = (hook n cs fn).obs s := by
  cases (funext h : g = s.heap.get?)
  rfl
theorem Tells.fact {cs : List (Fg → Bool)} {fn : List Df} {K : Fg} (t : Tells cs fn K) (i : Nat) {c : Fg → Bool} (h : cs[i]? = some c := by rfl) : c K = true := by
  have e := (Bool.and_eq_true_iff.mp (show ((cs.all fun c => c K) && fn.all fun d => d.good K) = true from congrArg Prod.fst t)).1
  exact List.all_eq_true.mp e c (List.mem_of_getElem? h)
theorem Tells.def_ {cs : List (Fg → Bool)} {fn : List Df} {K : Fg} (t : Tells cs fn K) (i : Nat) {d : Df} (h : fn[i]? = some d := by rfl) : ∃ fd, FnP K d.name d.qual d.st d.dfl (d.ad K) fd := by
  have e := (Bool.and_eq_true_iff.mp (show ((cs.all fun c => c K) && fn.all fun d => d.good K) = true from congrArg Prod.fst t)).2
  have e2 : (fn.map fun d => seenAt K (d.ad K)) = fn.map Df.want := congrArg Prod.snd t
  have e3 : (fn.map fun d => seenAt K (d.ad K))[i]? = (fn.map Df.want)[i]? := by rw [e2]
  rw [List.getElem?_map, List.getElem?_map, h] at e3
  exact Df.fun_ (Option.some.inj e3) (List.all_eq_true.mp e d (List.mem_of_getElem? h))
/-! tests -/
def cGlo (x : Str) : Fg → Bool := fun K => decide (PySem.W.nsIn K mainGlobals x = some (some (.ref (gAd x K))))
def cFree (x : Str) : Fg → Bool := fun K => decide (PySem.W.nsIn K mainGlobals x = some none)
def cBlt (x : Str) (id : String) : Fg → Bool := fun K => decide (PySem.W.nsIn K mainGlobals x = some (some (.builtin id)))
def cInt (x : Str) (i : Int) : Fg → Bool := fun K => match PySem.W.nsIn K mainGlobals x with
  | some (some (.int j _)) => decide (j = i)
  | _ => false
def cFind (x f : Str) (v : Fg → Option Value) : Fg → Bool := fun K => decide (PySem.W.findIn K (.ref (gAd x K)) f = some (v K))
def cNo (x f : Str) : Fg → Bool := cFind x f fun _ => none
def cCls (x : Str) : Fg → Bool := fun K => PySem.W.plainGet K (gAd x K) Str.empty && (PySem.W.hasDictIn K (gAd x K) && (PySem.W.plainOver K (gAd x K) && decide (PySem.W.findIn K (.ref (gAd x K)) "__setattr__" = some (some (.builtin "object.__setattr__")))))
def cMeth (x m : Str) : Fg → Bool := fun K => decide (PySem.W.findIn K (.ref (gAd x K)) m = some (some (.ref (mAd x m K)))) && (PySem.W.isFn K (.ref (mAd x m K)) && PySem.W.keepIn K (.ref (mAd x m K)))
def cMk (x : Str) : Fg → Bool := fun K => PySem.W.makesIn K (gAd x K) && (decide (PySem.W.findIn K (.ref (gAd x K)) "__init__" = some (some (.ref (mAd x "__init__" K)))) && (PySem.W.isFn K (.ref (mAd x "__init__" K)) && PySem.W.keepIn K (.ref (gAd x K))))
def cProp (x f : Str) : Fg → Bool := fun K => decide (PySem.W.findIn K (.ref (gAd x K)) f = some (some (.ref (mAd x f K)))) && (decide (PySem.W.specialIn K (.ref (mAd x f K)) "__get__" = some (some (.builtin "property.__get__"))) &&
  (decide (PySem.W.takesIn K (.ref (mAd x f K)) = some true) && (match PySem.W.recIn K (mAd x f K) "property" with
    | some (.ref _ :: _) => true
    | _ => false)))
theorem glo_of {K : Fg} {h : Heap} {mg : Str → Option Value} (X : K.In h) (G : h.Ns mainGlobals mg) {x : Str} (c : cGlo x K = true) : mg x = some (.ref (gAd x K)) := PySem.W.mg_of X G (of_decide_eq_true c)
theorem free_of {K : Fg} {h : Heap} {mg : Str → Option Value} (X : K.In h) (G : h.Ns mainGlobals mg) {x : Str} (c : cFree x K = true) : mg x = none := PySem.W.mg_none_of X G (of_decide_eq_true c)
theorem blt_of {K : Fg} {h : Heap} {mg : Str → Option Value} (X : K.In h) (G : h.Ns mainGlobals mg) {x : Str} {id : String} (c : cBlt x id K = true) : mg x = some (.builtin id) := PySem.W.mg_of X G (of_decide_eq_true c)
theorem int_of {K : Fg} {h : Heap} {mg : Str → Option Value} (X : K.In h) (G : h.Ns mainGlobals mg) {x : Str} {i : Int} (c : cInt x i K = true) : ∃ t, mg x = some (.int i t) := by
  unfold cInt at c
  split at c
  · rename_i j t e
    rw [of_decide_eq_true c] at e
    exact ⟨t, PySem.W.mg_of X G e⟩
  · cases c
theorem find_of {K : Fg} {x f : Str} {v : Fg → Option Value} (c : cFind x f v K = true) : PySem.W.findIn K (.ref (gAd x K)) f = some (v K) := of_decide_eq_true c
theorem no_of {K : Fg} {x f : Str} (c : cNo x f K = true) : NoAttr K (gAd x K) f := find_of (v := fun _ => none) c
theorem cls_of {K : Fg} {x : Str} (c : cCls x K = true) : Cls K (gAd x K) := by
  obtain ⟨c1, c⟩ := Bool.and_eq_true_iff.mp c
  obtain ⟨c2, c⟩ := Bool.and_eq_true_iff.mp c
  obtain ⟨c3, c4⟩ := Bool.and_eq_true_iff.mp c
  exact ⟨c1, c2, c3, of_decide_eq_true c4⟩
theorem meth_of {K : Fg} {x m : Str} (c : cMeth x m K = true) : Meth K (gAd x K) m (mAd x m K) := by
  obtain ⟨c1, c⟩ := Bool.and_eq_true_iff.mp c
  obtain ⟨c2, c3⟩ := Bool.and_eq_true_iff.mp c
  exact ⟨of_decide_eq_true c1, c2, c3⟩
theorem mk_of {K : Fg} {x : Str} (c : cMk x K = true) : Mk K (gAd x K) (mAd x "__init__" K) := by
  obtain ⟨c1, c⟩ := Bool.and_eq_true_iff.mp c
  obtain ⟨c2, c⟩ := Bool.and_eq_true_iff.mp c
  obtain ⟨c3, c4⟩ := Bool.and_eq_true_iff.mp c
  exact ⟨c1, of_decide_eq_true c2, c3, c4⟩
theorem prop_of {K : Fg} {x f : Str} (c : cProp x f K = true) : PropOf K (gAd x K) f (mAd x f K) (rAd "property" x f K) := by
  obtain ⟨c1, c⟩ := Bool.and_eq_true_iff.mp c
  obtain ⟨c2, c⟩ := Bool.and_eq_true_iff.mp c
  obtain ⟨c3, c4⟩ := Bool.and_eq_true_iff.mp c
  refine ⟨of_decide_eq_true c1, of_decide_eq_true c2, of_decide_eq_true c3, ?_⟩
  unfold rAd
  cases q : PySem.W.recIn K (mAd x f K) "property" with
  | none => rw [q] at c4; cases c4
  | some l =>
    rw [q] at c4
    cases l with
    | nil => cases c4
    | cons v r =>
      cases v with
      | ref g => exact ⟨r, rfl⟩
      | _ => cases c4
end WH
set_option Elab.async false
set_option linter.all false
set_option maxRecDepth 100000
set_option maxHeartbeats 4000000
/-! Rules of one's own: operators of own classes, great divisors, heaps that keep what is not meant to change, data. -/
namespace WB
open PySem PySem.Spec PyProof.Rows L2 WH
/-! numbers -/
def DivA (_ j : Int) : Prop := j ≠ 0 ∧ j.natAbs.log2 < 9000
theorem op_divA {X : Cx} : OpR X (binaryOp .FloorDiv) (rI DivA fun i j => .int (i.fdiv j)) := opI fun _ _ _ _ _ _ _ hc q => floordiv_int hc.1 q (.inl (PyProof.noPylong_of_log2 hc.2))
theorem divA {i j : Int} {n : Nat} (h0 : j ≠ 0) (h : j.natAbs < 2 ^ n) (hn : 0 < n ∧ n ≤ 9000) : DivA i j := ⟨h0, Nat.lt_of_lt_of_le (PySem.Flt.log2_lt_of hn.1 h) hn.2⟩
/-! the promise of a def that may raise or not -/
abbrev FnX (P : Program) (w : World) (K : Fg) (mg : Str → Option Value) (base : Heap) (k : Nat) (f : Addr) (fd : FuncData) (ps : List Str) (sp : Sp) : Prop := FnOk P w K mg base (L2.CX P w) k f fd ps sp
theorem CmpBack.of {Q : Value → Shared → Prop} {v : V} {u : Value} {s : Shared} (r : RelV v u) (q : Q u s) : PySem.W.CmpBack Q u s := by
  cases v <;> first | (obtain ⟨t, rfl⟩ := r; exact q) | (cases r; exact q)
section
variable {X : Cx} {C f : Addr} {fd : FuncData} {ps : List Str} {k : Nat} {sp : Sp}
/-- a def called by a sign: the values are handed over as they are -/
theorem run_sign {A : Around} {pins : List (Addr × Obj)} {σ : L2.St} {H : Hp} {s : Shared} {Q : VK} {us : List Value} {vs : List V} (F : FnX X.prog X.w X.K X.mg X.base k f fd ps sp) (hr : Room k A) (hfr : A.frames = X.A.frames) (hb : Binds X.K fd ps [])
    (I : Inv X pins σ H s) (r : Vals vs us) (h : sp vs H Q E0) : wpAny (model X.prog X.w) A (call (.ref f) us) (EP X pins σ Q) X.xe s := by
  have hl : (us ++ []).length = ps.length := by rw [List.append_nil, ← r.length]; exact F.len _ _ _ _ h
  have e0 : Env0 X.prog X.w X.K X.mg X.base A X.stack s H := by
    have e := I.env0
    exact ⟨by rw [hfr]; exact e.frames, e.mod, e.bs, e.bsz, e.funs, e.frf, e.hok, e.bare⟩
  refine wpAny_call (codeAny_mono (F.run A X.stack s H ⟨us, []⟩ us vs Q E0 hr e0 (by have := hb s us I.kIn hl; rwa [List.append_nil] at this) r h) fun r s' hq => ?_)
  cases r with
  | error e => exact passL pins σ H s e s' I hq
  | ok fl =>
    cases fl with
    | ret u => exact I.after hq
    | next => exact False.elim hq
    | brk => exact False.elim hq
    | cont => exact False.elim hq
/-- what an own class says of a two-place sign: its def, no reflected one -/
structure Sign (K : Fg) (C : Addr) (nm : String) (f : Addr) : Prop where
  first : PySem.W.selfFirst K C = true
  at_ : PySem.W.findIn K (.ref C) (PySem.dunder nm) = some (some (.ref f))
  fn : PySem.W.isFn K (.ref f) = true
  nor : PySem.W.findIn K (.ref C) (dunderR nm) = some none
  sub : PySem.W.subIn K (.type "int") (.ref C) = some false
/-- a op b, a of the own class at C, b such one or an int -/
def rSign (C : Addr) (sp : Sp) : R2 := fun x y H Q => (∃ a dx fs, x = .ref a ∧ H a = some (.ins C dx fs)) ∧ ((∃ b dy gs, y = .ref b ∧ H b = some (.ins C dy gs)) ∨ ∃ i, y = .int i) ∧ sp [x, y] H Q E0
theorem op_sign {op : Operator} (hi : (∃ t, PySem.W.findIn X.K (.type "int") (PySem.dunder op.info.2) = some t) ∧ ∃ t, PySem.W.findIn X.K (.type "int") (dunderR op.info.2) = some t) (S : Sign X.K C op.info.2 f)
    (F : FnX X.prog X.w X.K X.mg X.base k f fd ps sp) (hr : Room k X.A) (hb : Binds X.K fd ps []) : OpR X (binaryOp op) (rSign C sp) := by
  intro pins s σ H x y v u Q I rx ry ⟨⟨a, dx, fs, ex, ea⟩, hy, h⟩
  subst ex
  cases (show v = Value.ref a from rx)
  obtain ⟨mA, O, _⟩ := ins_get I.hok ea
  obtain ⟨od, J, _⟩ := O.look
  obtain ⟨m, fr⟩ := I.fr
  have hc : wpAny (model X.prog X.w) X.A (call (.ref f) [.ref a, u]) (PySem.W.CmpBack (EP X pins σ Q)) X.xe s :=
    wpAny_mono (run_sign F hr rfl hb I (.cons rx (.cons ry .nil)) h) (fun u' s' q => by
      obtain ⟨v', H', I', r', q'⟩ := q
      exact CmpBack.of (Q := EP X pins σ Q) r' ⟨v', H', I', r', q'⟩) fun _ _ z => z
  rcases hy with ⟨b, dy, gs, ey, eb⟩ | ⟨i, ey⟩
  · subst ey
    cases (show u = Value.ref b from ry)
    obtain ⟨mB, O', _⟩ := ins_get I.hok eb
    obtain ⟨od', J', _⟩ := O'.look
    exact PySem.W.binop_K fr I.ok.mod.kin J J'.type S.first S.at_ S.fn hc
  · subst ey
    obtain ⟨t, rfl⟩ := (show ∃ t, u = Value.int i t from ry)
    obtain ⟨⟨t1, h1⟩, t2, h2⟩ := hi
    exact PySem.W.ksp_binT fr I.ok.mod.kin J rfl S.first S.at_ S.fn S.nor (.inl rfl) h1 h2 S.sub hc
/-- -a -/
def rNeg (C : Addr) (sp : Sp) : V → Hp → VK → Prop := fun x H Q => (∃ a dx fs, x = .ref a ∧ H a = some (.ins C dx fs)) ∧ sp [x] H Q E0
theorem un_own (ha : PySem.W.findIn X.K (.ref C) "__neg__" = some (some (.ref f))) (hf : PySem.W.isFn X.K (.ref f) = true) (F : FnX X.prog X.w X.K X.mg X.base k f fd ps sp) (hr : Room k X.A) (hb : Binds X.K fd ps []) : UnR X (unaryOp .USub) (rNeg C sp) := by
  intro pins s σ H x v Q I rx ⟨⟨a, dx, fs, ex, ea⟩, h⟩
  subst ex
  cases (show v = Value.ref a from rx)
  obtain ⟨mA, O, _⟩ := ins_get I.hok ea
  obtain ⟨od, J, _⟩ := O.look
  obtain ⟨m, fr⟩ := I.fr
  exact PySem.W.ksp_neg fr I.ok.mod.kin J ha hf (run_sign F hr rfl hb I (.cons rx .nil) h)
end
end WB
namespace WB
open PySem PySem.Spec PyProof.Rows L2 WH
/-- a def of the module as its callers know it -/
structure Callee (P : Program) (w : World) (K : Fg) (mg : Str → Option Value) (base : Heap) (k : Nat) (x : Str) (ps : List Str) (sp : Sp) : Prop where
  ex : ∃ f fd, mg x = some (.ref f) ∧ PySem.W.keepIn K (.ref f) = true ∧ Binds K fd ps [] ∧ FnX P w K mg base k f fd ps sp
theorem pe_callee {X : Cx} {k : Nat} {x : Str} {ps : List Str} {sp : Sp} {p pos : Pos} {e : Expr} {es : List Expr} {t : TA} (c : Callee X.prog X.w X.K X.mg X.base k x ps sp) (hr : Room k X.A) (ha : PA X (e :: es) t) (hg : Gl X x := by rfl)
    (hdb : (x == ("__debug__" : Str)) = false := by decide) (he : starEach (e :: es) X.env = (false, eval e X.env) :: starEach es X.env := by rfl) (hpl : (backTo pos (starEach es X.env)).any (·.1) = false := by rfl) :
    PE X (.Call (.Name x p) (e :: es) [] pos) (tCall sp [] E0 t) := by
  obtain ⟨f, fd, h1, h2, h3, h4⟩ := c.ex
  exact pe_call h4 hr hg h1 h2 h3 .nil passL ha hdb he hpl
theorem Callee.of {P : Program} {w : World} {K : Fg} {mg : Str → Option Value} {base : Heap} {k : Nat} {x q : Str} {st : Stmt} {f : Addr} {fd : FuncData} {ps : List Str} {sp : Sp} (F : FnP K x q st [] f fd) (h : mg x = some (.ref f)) (b : Binds K fd ps []) (ok : FnX P w K mg base k f fd ps sp) :
    Callee P w K mg base k x ps sp := ⟨f, fd, h, F.kp, b, ok⟩
/-- made by its class's name, by position -/
structure Maker (P : Program) (w : World) (K : Fg) (mg : Str → Option Value) (base : Heap) (k : Nat) (x : Str) (C : Addr) (ps : List Str) (dvs : List V) (sp : Sp) : Prop where
  ex : ∃ f fd ds, mg x = some (.ref C) ∧ Mk K C f ∧ Binds K fd ps ds ∧ Vals dvs ds ∧ FnX P w K mg base k f fd ps sp
theorem pe_maker {X : Cx} {k : Nat} {x : Str} {C : Addr} {ps : List Str} {dvs : List V} {sp : Sp} {E : XK} {p pos : Pos} {e : Expr} {es : List Expr} {t : TA} (c : Maker X.prog X.w X.K X.mg X.base k x C ps dvs sp) (hr : Room (k + 1) X.A) (hx : Passes (L2.CX X.prog X.w) X E) (ha : PA X (e :: es) t) (hg : Gl X x := by rfl)
    (hdb : (x == ("__debug__" : Str)) = false := by decide) (he : starEach (e :: es) X.env = (false, eval e X.env) :: starEach es X.env := by rfl) (hpl : (backTo pos (starEach es X.env)).any (·.1) = false := by rfl) :
    PE X (.Call (.Name x p) (e :: es) [] pos) (tMake C sp dvs E t) := by
  obtain ⟨f, fd, ds, h1, h2, h3, h5, h4⟩ := c.ex
  exact pe_make h2 h4 hr hg h1 h3 h5 hx ha hdb he hpl
/-! heaps -/
def Ex (H H' : Hp) : Prop := ∀ a o, H a = some o → H' a = some o
theorem Ex.rfl {H : Hp} : Ex H H := fun _ _ h => h
theorem Ex.trans {H H1 H2 : Hp} (a : Ex H H1) (b : Ex H1 H2) : Ex H H2 := fun x o h => b x o (a x o h)
theorem Ex.new {H : Hp} {p : Addr} {o : HO} (h : H p = none) : Ex H (upd H p o) := fun a u e => by
  rw [upd_ne (ne_of_none e h)]; exact e
theorem Ex.free {H H' : Hp} {p : Addr} (e : Ex H H') (h : H' p = none) : H p = none := by
  cases q : H p with
  | none => rfl
  | some o => rw [e p o q] at h; cases h
/-- what is new may be changed -/
theorem Ex.mut {H H' : Hp} {p : Addr} {o : HO} (e : Ex H H') (h : H p = none) : Ex H (upd H' p o) := fun a u q => by
  rw [upd_ne (ne_of_none q h)]; exact e a u q
/-! quotients -/
def ratF (q : Rat) : List (Str × V) := [("_top", .int q.num), ("_bottom", .int q.den)]
def RatAt (C : Addr) (H : Hp) (a : Addr) (q : Rat) : Prop := ∃ dx, H a = some (.ins C dx (ratF q))
def NumAt (C : Addr) (H : Hp) (v : V) (q : Rat) : Prop := (∃ i : Int, v = .int i ∧ q = (i : Rat)) ∨ ∃ a, v = .ref a ∧ RatAt C H a q
theorem RatAt.ex {C : Addr} {H H' : Hp} {a : Addr} {q : Rat} (r : RatAt C H a q) (e : Ex H H') : RatAt C H' a q := r.elim fun dx h => ⟨dx, e _ _ h⟩
theorem NumAt.ex {C : Addr} {H H' : Hp} {v : V} {q : Rat} (r : NumAt C H v q) (e : Ex H H') : NumAt C H' v q := r.elim .inl fun ⟨a, h, g⟩ => .inr ⟨a, h, g.ex e⟩
theorem RatAt.num {C : Addr} {H : Hp} {a : Addr} {q : Rat} (r : RatAt C H a q) : NumAt C H (.ref a) q := .inr ⟨a, rfl, r⟩
theorem RatAt.inj {C : Addr} {H : Hp} {a : Addr} {q r : Rat} (h : RatAt C H a q) (g : RatAt C H a r) : q = r := by
  obtain ⟨dx, h⟩ := h
  obtain ⟨dy, g⟩ := g
  rw [h] at g
  have e := congrArg (fun o => match o with | some (HO.ins _ _ fs) => fs | _ => []) g
  have e2 : ratF q = ratF r := e
  unfold ratF at e2
  simp only [List.cons.injEq, Prod.mk.injEq, V.int.injEq, true_and, and_true] at e2
  exact Rat.ext e2.1 (by omega)
/-- not too long -/
def Sz (n : Nat) (q : Rat) : Prop := q.num.natAbs < 2 ^ n ∧ q.den < 2 ^ n
theorem Sz.mono {n m : Nat} {q : Rat} (h : Sz n q) (l : n ≤ m) : Sz m q := ⟨Nat.lt_of_lt_of_le h.1 (Nat.pow_le_pow_right (by decide) l), Nat.lt_of_lt_of_le h.2 (Nat.pow_le_pow_right (by decide) l)⟩
/-- a new quotient is handed back -/
def RetRat (C : Addr) (H : Hp) (Q : VK) (q : Rat) : Prop := ∀ p H', H p = none → Ex H H' → RatAt C H' p q → Q (.ref p) H'
/-! kinds -/
/-- a truth -/
def isB : V → Bool
  | .bl _ => true
  | _ => false
theorem isB_no {x : V} (h : isB x = false) (b : Bool) : decide (x = .bl b) = false := decide_eq_false (by rintro rfl; cases h)
/-- is it an integer, is it of the class at C -/
structure TyN (K : Fg) (C : Addr) (H : Hp) (x : V) (wh rt : Bool) : Prop where
  ex : ∃ t bi, TyX K H x t ∧ PySem.W.kitOne K t (.type "int") = some bi ∧ wh = (bi && !isB x) ∧ PySem.W.kitOne K t (.ref C) = some rt
/-- the promises of two kinds of calls together -/
theorem FnX.or {P : Program} {w : World} {K : Fg} {mg : Str → Option Value} {base : Heap} {j k : Nat} {f : Addr} {fd : FuncData} {ps : List Str} {sp sp' : Sp} (F : FnX P w K mg base j f fd ps sp) (G : FnX P w K mg base k f fd ps sp') :
    FnX P w K mg base (max j k) f fd ps (fun vs H Q E => sp vs H Q E ∨ sp' vs H Q E) :=
  ⟨fun vs H Q E q => q.elim (F.len vs H Q E) (G.len vs H Q E), fun A outer s H args us vs Q E hr he hb hv hs => hs.elim (F.run A outer s H args us vs Q E (hr.mono (Nat.le_max_left ..)) he hb hv) (G.run A outer s H args us vs Q E (hr.mono (Nat.le_max_right ..)) he hb hv)⟩
end WB
namespace WB
open PySem PySem.Spec PyProof.Rows L2 WH
/-- a property as its readers know it -/
structure Getter (P : Program) (w : World) (K : Fg) (mg : Str → Option Value) (base : Heap) (k : Nat) (C : Addr) (f : Str) (sp : Sp) : Prop where
  ex : ∃ p g fd, Cls K C ∧ PropOf K C f p g ∧ Binds K fd ["self"] [] ∧ FnX P w K mg base k g fd ["self"] sp
theorem pe_getter {X : Cx} {k : Nat} {C : Addr} {f : Str} {sp : Sp} {e : Expr} {ta : TE} {pos : Pos} (g : Getter X.prog X.w X.K X.mg X.base k C f sp) (hr : Room (k + 1) X.A) (he : PE X e ta) (hab : attributeBase e f X.env (eval e X.env) = eval e X.env := by rfl) :
    PE X (.Attribute e f pos) (tProp C sp [] E0 ta) := by
  obtain ⟨p, g', fd, c, hp, hb, F⟩ := g.ex
  exact pe_prop he c hp F hr hb .nil passL hab
/-- a method as its callers know it -/
structure Mthd (P : Program) (w : World) (K : Fg) (mg : Str → Option Value) (base : Heap) (k : Nat) (C : Addr) (m : Str) (ps : List Str) (sp : Sp) : Prop where
  ex : ∃ f fd, Cls K C ∧ Meth K C m f ∧ Binds K fd ps [] ∧ FnX P w K mg base k f fd ps sp
/-- a two-place sign of an own class -/
structure SignOk (P : Program) (w : World) (K : Fg) (mg : Str → Option Value) (base : Heap) (k : Nat) (C : Addr) (nm : String) (sp : Sp) : Prop where
  ex : ∃ f fd ps, Sign K C nm f ∧ Binds K fd ps [] ∧ FnX P w K mg base k f fd ps sp
theorem intAdd {K : Fg} : (∃ t, PySem.W.findIn K (.type "int") (PySem.dunder Operator.Add.info.2) = some t) ∧ ∃ t, PySem.W.findIn K (.type "int") (dunderR Operator.Add.info.2) = some t := ⟨⟨_, rfl⟩, ⟨_, rfl⟩⟩
theorem intSub {K : Fg} : (∃ t, PySem.W.findIn K (.type "int") (PySem.dunder Operator.Sub.info.2) = some t) ∧ ∃ t, PySem.W.findIn K (.type "int") (dunderR Operator.Sub.info.2) = some t := ⟨⟨_, rfl⟩, ⟨_, rfl⟩⟩
theorem intMul {K : Fg} : (∃ t, PySem.W.findIn K (.type "int") (PySem.dunder Operator.Mult.info.2) = some t) ∧ ∃ t, PySem.W.findIn K (.type "int") (dunderR Operator.Mult.info.2) = some t := ⟨⟨_, rfl⟩, ⟨_, rfl⟩⟩
section
variable {X : Cx} {k : Nat} {C : Addr} {sp : Sp}
theorem op_ownAdd (s : SignOk X.prog X.w X.K X.mg X.base k C Operator.Add.info.2 sp) (hr : Room k X.A) : OpR X (binaryOp .Add) (rSign C sp) := by
  obtain ⟨f, fd, ps, S, b, F⟩ := s.ex
  exact op_sign intAdd S F hr b
theorem op_ownSub (s : SignOk X.prog X.w X.K X.mg X.base k C Operator.Sub.info.2 sp) (hr : Room k X.A) : OpR X (binaryOp .Sub) (rSign C sp) := by
  obtain ⟨f, fd, ps, S, b, F⟩ := s.ex
  exact op_sign intSub S F hr b
theorem op_ownMul (s : SignOk X.prog X.w X.K X.mg X.base k C Operator.Mult.info.2 sp) (hr : Room k X.A) : OpR X (binaryOp .Mult) (rSign C sp) := by
  obtain ⟨f, fd, ps, S, b, F⟩ := s.ex
  exact op_sign intMul S F hr b
end
/-- -x of an own class -/
structure NegOk (P : Program) (w : World) (K : Fg) (mg : Str → Option Value) (base : Heap) (k : Nat) (C : Addr) (sp : Sp) : Prop where
  ex : ∃ f fd ps, PySem.W.findIn K (.ref C) "__neg__" = some (some (.ref f)) ∧ PySem.W.isFn K (.ref f) = true ∧ Binds K fd ps [] ∧ FnX P w K mg base k f fd ps sp
theorem un_ownNeg {X : Cx} {k : Nat} {C : Addr} {sp : Sp} (s : NegOk X.prog X.w X.K X.mg X.base k C sp) (hr : Room k X.A) : UnR X (unaryOp .USub) (rNeg C sp) := by
  obtain ⟨f, fd, ps, h1, h2, b, F⟩ := s.ex
  exact un_own h1 h2 F hr b
end WB
set_option Elab.async false
set_option linter.all false
set_option maxRecDepth 100000
set_option maxHeartbeats 4000000
/-! == and != of own classes; lcm, repr of a truth; an own exception without arguments -/
namespace WB
open PySem PySem.Spec PyProof.Rows L2 WH
/-! ### great common multiples, the text of a truth -/
theorem call_lcm {X : Cx} : CallR X (.builtin "math.lcm") (fun xs H Q => ∃ a b : Int, xs = [.int a, .int b] ∧ a.natAbs < 2 ^ 6000 ∧ b.natAbs < 2 ^ 6000 ∧ Q (.int ((Nat.lcm a.natAbs b.natAbs : Nat) : Int)) H) := by
  intro pins s σ H xs us Q I r h
  obtain ⟨a, b, rfl, ha, hb, q⟩ := h
  obtain ⟨t, u, rfl⟩ := Vals.int2 r
  have lg : ∀ n : Nat, n < 2 ^ 6000 → n.log2 < 6000 := fun n h => by
    by_cases z : n = 0
    · subst z; decide
    · exact (Nat.log2_lt z).mpr h
  have h1 : (max 1 a.natAbs).log2 < 6000 := lg _ (Nat.max_lt.mpr ⟨by decide, ha⟩)
  have h2 : (max a.natAbs b.natAbs).log2 < 6000 := lg _ (Nat.max_lt.mpr ⟨ha, hb⟩)
  have e : Nat.lcm 1 a.natAbs = a.natAbs := by simp [Nat.lcm]
  have h3 : (((((Nat.lcm 1 a.natAbs).lcm b.natAbs : Nat) : Int)).natAbs).log2 < bitsLine := by
    rw [e]
    have l : a.natAbs.lcm b.natAbs ≤ a.natAbs * b.natAbs := Nat.div_le_self ..
    have m : a.natAbs * b.natAbs < 2 ^ 12000 := by
      rw [show 12000 = 6000 + 6000 from rfl, Nat.pow_add]
      exact Nat.mul_lt_mul'' ha hb
    have n : (a.natAbs.lcm b.natAbs).log2 < 12000 := by
      by_cases z : a.natAbs.lcm b.natAbs = 0
      · rw [z]; decide
      · exact (Nat.log2_lt z).mpr (Nat.lt_of_le_of_lt l m)
    have eb : bitsLine = 134217728 := by decide
    rw [eb, Int.natAbs_natCast]
    omega
  have g := PySem.W.mg_run_lcm a t b u (by omega) (by omega) h3
  rw [e] at g
  exact call_function_meets PySem.W.MGF.kind_lcm PySem.W.MGF.plain_lcm PySem.W.MGF.entry_lcm (PySem.W.MGF.args_lcm _ _) g.meets ⟨.int _, H, I.tok _, ⟨_, rfl⟩, q⟩
def tfS (b : Bool) : Str := if b then "True" else "False"
theorem call_repr_bl {X : Cx} : CallR X (.builtin "repr") (fun xs H Q => ∃ b, xs = [.bl b] ∧ Q (.str (tfS b)) H) := by
  intro pins s σ H xs us Q I r h
  obtain ⟨b, rfl, q⟩ := h
  obtain ⟨u, rfl, ru⟩ := vals1 r
  cases (show u = Value.bool b from ru)
  exact PySem.P.repr_of_bool ⟨.str (tfS b), H, I.tok _, ⟨_, rfl⟩, q⟩
/-! ### X() -/
theorem pmk_own0 {X : Cx} {C : Addr} {bmB : List Value} {B newId initId : String} {x : Str} {p pos : Pos} (F : ExcBaseFacts B newId initId bmB) (q : PySem.W.excIn X.K C bmB newId = true) (gC : X.mg x = some (.ref C)) (kC : PySem.W.keepIn X.K (.ref C) = true)
    (r : Raises X (.ref C)) (hg : Gl X x) (hdb : (x == ("__debug__" : Str)) = false := by decide) : PMk X (.Call (.Name x p) [] [] pos) (fun _ H Q => Q (.ref C) none H) := by
  intro pins s σ H Q I h
  refine wpAny_Call_Name_kw (ld_glob I hg gC ?_ hdb)
  refine PySem.W.callWith_K0 I.kIn kC ?_
  obtain ⟨bm, N, nm, qn, bs, hdct, sn, sub, ab, col, dd, k0, k1, k2, k3, k5, mN, hC, hN, hni, T⟩ := exc_obj I.kIn q
  refine wpAny_call_exc_subT F T hC hN hni (fun h' e hm => ?_) (Nat.zero_le _)
  exact mk_of I hm r h (I.hok.gone hm.new)
/-! ### own == and != -/
/-- a value whose type is the built-in n -/
theorem looks_ty {X : Cx} {pins : List (Addr × Obj)} {σ : L2.St} {H : Hp} {s : Shared} {M : Model} {x : V} {u : Value} {n : String} (I : Inv X pins σ H s) (rx : RelV x u) (ty : TyX X.K H x (.type n)) : PySem.W.Looks M s.heap (typeOf u) (.type n) := by
  have at_ : ∀ {a : Addr} {o : Obj}, s.heap.get? a = some o → o.cls = .type n → PySem.W.Looks M s.heap (typeOf (.ref a)) (.type n) := fun h hc A Q E s k q => wpAny_typeOf_ref (k _ _ h) (by rw [hc]; exact q)
  cases ty with
  | base b =>
    cases b with
    | non => cases (show u = Value.none from rx); exact .of_pure rfl
    | bl y => cases (show u = Value.bool y from rx); exact .of_pure rfl
    | int i => obtain ⟨t, q⟩ := (show ∃ t, u = Value.int i t from rx); cases q; exact .of_pure rfl
    | str y => obtain ⟨t, q⟩ := (show ∃ t, u = Value.str y t from rx); cases q; exact .of_pure rfl
    | flt y => obtain ⟨t, q⟩ := (show ∃ t, u = Value.float y t from rx); cases q; exact .of_pure rfl
    | lst ea =>
      cases (show u = _ from rx)
      obtain ⟨_, _, n, _, h1⟩ := (show ObjOk X.prog X.w H s.heap _ (.lst _) from I.hok _ _ ea)
      exact at_ h1 rfl
    | frz ea =>
      cases (show u = _ from rx)
      obtain ⟨_, _, _, n, _, h1⟩ := (show ObjOk X.prog X.w H s.heap _ (.frz _ (.lst _)) from I.hok _ _ ea)
      exact at_ h1 rfl
    | tup ea =>
      cases (show u = _ from rx)
      obtain ⟨_, _, _, o, h1, h2, _⟩ := (show ObjOk X.prog X.w H s.heap _ (.tup _) from I.hok _ _ ea)
      exact at_ h1 h2
    | dK ea =>
      cases (show u = _ from rx)
      obtain ⟨_, _, vs, _, o, es, ep, h1, h2, _⟩ := (show ObjOk X.prog X.w H s.heap _ (.dK _) from I.hok _ _ ea)
      exact at_ h1 h2.1
    | dT ea =>
      cases (show u = _ from rx)
      obtain ⟨_, _, xs, _, o, es, ep, h1, h2, _⟩ := (show ObjOk X.prog X.w H s.heap _ (.dT _) from I.hok _ _ ea)
      exact at_ h1 h2.1
  | byt y => obtain ⟨t, q⟩ := (show ∃ t, u = Value.bytes y t from rx); cases q; exact .of_pure rfl
  | set ea =>
    cases (show u = _ from rx)
    obtain ⟨o, _, _, _, e, ex, _⟩ := I.hok _ _ ea
    exact at_ e ex.1
  | kList e c => cases (show u = _ from rx); exact at_ (I.kIn _ _ e) c
  | kTuple e c => cases (show u = _ from rx); exact at_ (I.kIn _ _ e) c
  | kDict e c => cases (show u = _ from rx); exact at_ (I.kIn _ _ e) c
  | fTuple ea =>
    cases (show u = _ from rx)
    obtain ⟨_, _, _, _, o, h1, h2, _⟩ := (show ObjOk X.prog X.w H s.heap _ (.frz _ (.tup _)) from I.hok _ _ ea)
    exact at_ h1 h2
  | fDict ea =>
    cases (show u = _ from rx)
    obtain ⟨_, _, _, vs, _, o, es, ep, h1, h2, _⟩ := (show ObjOk X.prog X.w H s.heap _ (.frz _ (.dK _)) from I.hok _ _ ea)
    exact at_ h1 h2.1
/-- the right side of an own == : one of the class at C, or of a built-in type -/
def Right (K : Fg) (C : Addr) (H : Hp) (y : V) : Prop := (∃ b dy gs, y = .ref b ∧ H b = some (.ins C dy gs)) ∨ ∃ n, TyX K H y (.type n) ∧ PySem.W.subIn K (.type n) (.ref C) = some false
def rOwnEq (K : Fg) (C : Addr) (sp : Sp) : R2 := fun x y H Q => (∃ a dx fs, x = .ref a ∧ H a = some (.ins C dx fs)) ∧ Right K C H y ∧ sp [x, y] H Q E0
def rOwnNe (K : Fg) (C : Addr) (sp : Sp) : R2 := fun x y H Q => (∃ a dx fs, x = .ref a ∧ H a = some (.ins C dx fs)) ∧ Right K C H y ∧ sp [x, y] H (fun v H' => ∃ b, v = .bl b ∧ Q (.bl (!b)) H') E0
/-- what the written part says of the class's == -/
structure EqOk (P : Program) (w : World) (K : Fg) (mg : Str → Option Value) (base : Heap) (k : Nat) (C : Addr) (sp : Sp) : Prop where
  ex : ∃ f fd ps, PySem.W.findIn K (.ref C) "__eq__" = some (some (.ref f)) ∧ PySem.W.isFn K (.ref f) = true ∧ Binds K fd ps [] ∧ FnX P w K mg base k f fd ps sp
  ne : PySem.W.findIn K (.ref C) "__ne__" = some (some (.builtin "object.__ne__"))
  ob : PySem.W.subIn K (.ref C) (.type "object") = some true
section
variable {X : Cx} {k : Nat} {C : Addr} {sp : Sp}
theorem right_ty {pins : List (Addr × Obj)} {σ : L2.St} {H : Hp} {s : Shared} {y : V} {u : Value} {M : Model} (I : Inv X pins σ H s) (ry : RelV y u) (h : Right X.K C H y) : ∃ tb, PySem.W.Looks M s.heap (typeOf u) tb ∧ PySem.W.notFirst X.K C tb = true := by
  rcases h with ⟨b, dy, gs, rfl, eb⟩ | ⟨n, ty, hs⟩
  · cases (show u = Value.ref b from ry)
    obtain ⟨mB, O', _⟩ := ins_get I.hok eb
    obtain ⟨od', J', _⟩ := O'.look
    exact ⟨.ref C, J'.type, by simp [PySem.W.notFirst]⟩
  · exact ⟨.type n, looks_ty I ry ty, by simp [PySem.W.notFirst, hs]⟩
theorem op_ownEq (e : EqOk X.prog X.w X.K X.mg X.base k C sp) (hr : Room k X.A) : OpR X (compareOp .Eq) (rOwnEq X.K C sp) := by
  intro pins s σ H x y v u Q I rx ry ⟨⟨a, dx, fs, ex, ea⟩, hy, h⟩
  subst ex
  cases (show v = Value.ref a from rx)
  obtain ⟨f, fd, ps, h1, h2, b, F⟩ := e.ex
  obtain ⟨mA, O, _⟩ := ins_get I.hok ea
  obtain ⟨od, J, _⟩ := O.look
  obtain ⟨m, fr⟩ := I.fr
  obtain ⟨tb, L, n⟩ := right_ty (M := model X.prog X.w) I ry hy
  show wpAny _ _ (richCompare .Eq (.ref a) u) _ _ _
  refine PySem.W.cmp_K hr.units0 fr I.ok.mod.kin J L n h1 h2 (wpAny_mono (run_sign F hr rfl b I (.cons rx (.cons ry .nil)) h) (fun u' s' q => ?_) fun _ _ z => z)
  obtain ⟨v', H', I', r', q'⟩ := q
  exact CmpBack.of (Q := EP X pins σ Q) r' ⟨v', H', I', r', q'⟩
/-- object.__ne__ by the own == -/
theorem call_ne {A : Around} {pins : List (Addr × Obj)} {σ : L2.St} {H : Hp} {s : Shared} {a : Addr} {dx : Addr} {fs : List (Str × V)} {y : V} {u : Value} {Q : VK} (e : EqOk X.prog X.w X.K X.mg X.base k C sp) (hr : Room (k + 1) A) (hfr : A.frames = X.A.frames) (I : Inv X pins σ H s)
    (ea : H a = some (.ins C dx fs)) (ry : RelV y u) (h : sp [.ref a, y] H (fun v H' => ∃ b, v = .bl b ∧ Q (.bl (!b)) H') E0) :
    wpAny (model X.prog X.w) A (call (.builtin "object.__ne__") [.ref a, u]) (EP X pins σ Q) X.xe s := by
  obtain ⟨f, fd, ps, h1, h2, b, F⟩ := e.ex
  obtain ⟨mA, O, _⟩ := ins_get I.hok ea
  obtain ⟨od, J, _⟩ := O.look
  have sub : PySem.W.Looks (model X.prog X.w) s.heap (isInstance (.ref a) (.type "object")) true := J.type.andThen (PySem.W.looks_subIn I.kIn e.ob)
  refine wpAny_call (codeAny_call_builtin PySem.F.cmp_object.ne.plain PySem.F.cmpEntry_ne (@PySem.W.check_slot (model X.prog X.w) _ _ s "object.__ne__" "object" "__ne__" (.ref a) [u] [] _ PySem.F.cmpKind_ne PySem.F.cmpSplit_ne sub (PySem.F.cmpArgs_ne _ _) ?_))
  have go := run_sign (A := A.in1) F hr.in1 hfr b I (.cons (show RelV (.ref a) (.ref a) from rfl) (.cons ry .nil)) h
  have hu : A.in1.units < cLine := hr.in1.units0
  unfold Builtin.«object.__ne__»
  repeat (first | with_reducible refine wpAny_cRoomFor hu ?_ | with_reducible refine PySem.W.ifBound_K I.kIn J h1 h2 (wpAny_mono go (fun u' s' q => ?_) fun _ _ z => z) | wp_step)
  obtain ⟨v', H', I', r', r, ev, q'⟩ := q
  subst ev
  cases (show u' = Value.bool r from r')
  dsimp only
  refine wpAny_bind (wpAny_truthy_bool (wpAny_pure ?_))
  exact ⟨.bl (!r), H', I', rfl, q'⟩
theorem op_ownNe (e : EqOk X.prog X.w X.K X.mg X.base k C sp) (hr : Room (k + 1) X.A) : OpR X (compareOp .NotEq) (rOwnNe X.K C sp) := by
  intro pins s σ H x y v u Q I rx ry ⟨⟨a, dx, fs, ex, ea⟩, hy, h⟩
  subst ex
  cases (show v = Value.ref a from rx)
  obtain ⟨mA, O, _⟩ := ins_get I.hok ea
  obtain ⟨od, J, _⟩ := O.look
  obtain ⟨m, fr⟩ := I.fr
  obtain ⟨tb, L, hn⟩ := right_ty (M := model X.prog X.w) I ry hy
  have go := call_ne e hr rfl I ea ry h
  have X' := I.kIn
  have one : wpAny (model X.prog X.w) X.A (tryCompare (.ref a) "__ne__" u) (fun r s' => ∃ v, r = some v ∧ EP X pins σ Q v s') X.xe s := by
    unfold tryCompare
    simp only [callSpecialIfBound?, bindSpecialIfBound?]
    refine wpAny_bind (wpAny_holding (wpAny_bind (wpAny_bind (wpAny_bind (J.type.here ((PySem.W.looks_findIn X' e.ne).here ?_))))))
    simp only [PySem.F.cmp_object.ne.bind]
    have back : ∀ v s', EP X pins σ Q v s' → wpAny (model X.prog X.w) X.A (match some v with
        | some Value.notImplemented | none => pure none
        | some z => pure (some z)) (fun r s' => ∃ v, r = some v ∧ EP X pins σ Q v s') X.xe s' := fun v s' w => by
      obtain ⟨z, H', I', r', q'⟩ := id w
      cases z <;> first | (obtain ⟨t, rfl⟩ := r'; exact wpAny_pure ⟨_, rfl, w⟩) | (cases r'; exact wpAny_pure ⟨_, rfl, w⟩)
    refine wpAny_bind (wpAny_askSetting (wpAny_ite ?_))
    split
    · exact wpAny_bind (wpAny_pure (wpAny_pure (wpAny_bind (wpAny_mono go (fun v s' hv => wpAny_pure (back v s' hv)) fun _ _ z => z))))
    · exact wpAny_tryCatch (wpAny_bind (wpAny_pure (wpAny_pure (wpAny_bind (wpAny_mono go (fun v s' hv => wpAny_pure (back v s' hv)) fun _ _ z => z)))))
  show wpAny _ _ (richCompare .NotEq (.ref a) u) _ _ _
  unfold richCompare
  simp only [oneThing_ref]
  refine wpAny_holding (wpAny_bind (wpAny_cRoomFor hr.units0 (wpAny_bind (J.type.here (wpAny_bind (L.here ?_))))))
  split
  · rename_i ne
    have no : PySem.W.subIn X.K tb (.ref C) = some false := by
      rcases Bool.or_eq_true_iff.mp (show ((tb == .ref C) || (PySem.W.subIn X.K tb (.ref C) == some false)) = true from hn) with z | z
      · rw [beq_iff_eq.mp z] at ne; simp at ne
      · exact beq_iff_eq.mp z
    refine wpAny_bind ((PySem.W.looks_subIn X' no).here ?_)
    simp only [Bool.false_eq_true, if_false]
    refine wpAny_bind (wpAny_mono one (fun r s' z => ?_) fun _ _ z => z)
    obtain ⟨r0, er, ep⟩ := z
    subst er
    exact wpAny_pure ep
  · refine wpAny_bind (wpAny_pure ?_)
    simp only [Bool.false_eq_true, if_false]
    refine wpAny_bind (wpAny_mono one (fun r s' z => ?_) fun _ _ z => z)
    obtain ⟨r0, er, ep⟩ := z
    subst er
    exact wpAny_pure ep
end
end WB
namespace WB
open PySem PySem.Spec PyProof.Rows L2 WH
/-- an exception class without an __init__ of its own -/
structure ExcC (K : Fg) (mg : Str → Option Value) (x : Str) (C : Addr) : Prop where
  g : mg x = some (.ref C)
  ex : PySem.W.excIn K C [.type "ValueError", .type "Exception", .type "BaseException", .type "object"] "ValueError.__new__" = true
  kp : PySem.W.keepIn K (.ref C) = true
  sb : PySem.W.subIn K (.ref C) (.type "BaseException") = some true
  ty : PySem.W.typeIn K (.ref C) = some (.type "type")
theorem ps_raise0 {X : Cx} {W : WX} {x : Str} {C : Addr} {p pos pos' : Pos} (e : ExcC X.K X.mg x C) (tk : Takes X W) (hc : X.calm = true := by rfl) (hg : Gl X x := by rfl) (hdb : (x == ("__debug__" : Str)) = false := by decide) :
    PS X (.Raise (some (.Call (.Name x p) [] [] pos)) none pos') (fun _ σ H => W (.ref C) none σ H) :=
  ps_raise hc tk (pmk_own0 PySem.F.excBase_ValueError e.ex e.g e.kp (raises_own e.sb e.ty) hg hdb)
end WB
set_option Elab.async false
set_option linter.all false
/-! Quotients in lowest terms. -/
namespace WM
theorem gcd_int (n d : Int) : Nat.gcd n.natAbs d.natAbs = Int.gcd d n := by rw [Int.gcd_comm]; rfl
theorem fdiv_num (n d : Int) (hd : d ≠ 0) (c : Int) (hc : c = if d < 0 then -((Nat.gcd n.natAbs d.natAbs : Nat) : Int) else ((Nat.gcd n.natAbs d.natAbs : Nat) : Int)) : n.fdiv c = (Rat.divInt n d).num := by
  rw [Rat.num_divInt, hc, gcd_int]
  have hg : (Int.gcd d n : Int) ∣ n := Int.gcd_dvd_right ..
  by_cases h : d < 0
  · rw [if_pos h, Int.sign_eq_neg_one_of_neg h, Int.fdiv_eq_ediv_of_dvd (Int.neg_dvd.mpr hg), Int.ediv_neg, Int.neg_one_mul, Int.neg_ediv_of_dvd hg]
  · rw [if_neg h, Int.sign_eq_one_of_pos (by omega), Int.fdiv_eq_ediv_of_dvd hg, Int.one_mul]
theorem fdiv_den (n d : Int) (hd : d ≠ 0) (c : Int) (hc : c = if d < 0 then -((Nat.gcd n.natAbs d.natAbs : Nat) : Int) else ((Nat.gcd n.natAbs d.natAbs : Nat) : Int)) : d.fdiv c = ((Rat.divInt n d).den : Int) := by
  rw [Rat.den_divInt, if_neg hd, hc, gcd_int]
  have hg : (Int.gcd d n : Int) ∣ d := Int.gcd_dvd_left ..
  by_cases h : d < 0
  · have e : d = -((d.natAbs : Nat) : Int) := by omega
    rw [if_pos h, Int.fdiv_eq_ediv_of_dvd (Int.neg_dvd.mpr hg), Int.ediv_neg, ← Int.neg_ediv_of_dvd hg, Int.natCast_ediv, show ((d.natAbs : Nat) : Int) = -d by omega]
  · rw [if_neg h, Int.fdiv_eq_ediv_of_dvd hg, Int.natCast_ediv, show ((d.natAbs : Nat) : Int) = d by omega]
theorem gcd_ne (n d : Int) (hd : d ≠ 0) : ((Nat.gcd n.natAbs d.natAbs : Nat) : Int) ≠ 0 := by
  have : 0 < Nat.gcd n.natAbs d.natAbs := Nat.gcd_pos_of_pos_right _ (by omega)
  omega
theorem gcd_le (n d : Int) (hd : d ≠ 0) : Nat.gcd n.natAbs d.natAbs ≤ d.natAbs := Nat.le_of_dvd (by omega) (Nat.gcd_dvd_right ..)
theorem num_le (n d : Int) (hd : d ≠ 0) : (Rat.divInt n d).num.natAbs ≤ n.natAbs := by
  rw [Rat.num_divInt, gcd_int n d |>.symm]
  refine Nat.le_trans (Int.natAbs_ediv_le_natAbs _ _) ?_
  rw [Int.natAbs_mul, Int.natAbs_sign_of_ne_zero hd, Nat.one_mul]
  exact Nat.le_refl _
theorem den_le (n d : Int) (hd : d ≠ 0) : (Rat.divInt n d).den ≤ d.natAbs := by
  rw [Rat.den_divInt, if_neg hd]
  exact Nat.div_le_self ..
theorem add_eq (q r : Rat) : Rat.divInt (q.num * r.den + r.num * q.den) (q.den * r.den) = q + r := by
  have h := Rat.divInt_add_divInt q.num r.num (d₁ := (q.den : Int)) (d₂ := (r.den : Int)) (by have := q.den_nz; omega) (by have := r.den_nz; omega)
  rw [Rat.num_divInt_den, Rat.num_divInt_den] at h
  exact h.symm
theorem sub_eq (q r : Rat) : Rat.divInt (q.num * r.den - r.num * q.den) (q.den * r.den) = q - r := by
  have h := Rat.divInt_sub_divInt q.num r.num (d₁ := (q.den : Int)) (d₂ := (r.den : Int)) (by have := q.den_nz; omega) (by have := r.den_nz; omega)
  rw [Rat.num_divInt_den, Rat.num_divInt_den] at h
  exact h.symm
theorem mul_eq (q r : Rat) : Rat.divInt (q.num * r.num) (q.den * r.den) = q * r := by
  have h := Rat.divInt_mul_divInt q.num r.num (d₁ := (q.den : Int)) (d₂ := (r.den : Int))
  rw [Rat.num_divInt_den, Rat.num_divInt_den] at h
  exact h.symm
theorem neg_eq (q : Rat) : Rat.divInt (-q.num) q.den = -q := by
  rw [← Rat.neg_divInt, Rat.num_divInt_den]
theorem over_eq (q r : Rat) : Rat.divInt (q.num * r.den) (q.den * r.num) = q / r := by
  have h := Rat.divInt_mul_divInt q.num r.den (d₁ := (q.den : Int)) (d₂ := r.num)
  rw [Rat.num_divInt_den, ← Rat.inv_divInt, Rat.num_divInt_den] at h
  rw [Rat.div_def]
  exact h.symm
theorem den_pos (q : Rat) : (0 : Int) < q.den := by have := q.den_pos; omega
theorem int_eq (i : Int) : Rat.divInt i 1 = (i : Rat) := by
  have h := Rat.num_divInt_den (i : Rat)
  rwa [Rat.num_intCast, Rat.den_intCast] at h
end WM
namespace WM
/-! sums over a common bottom -/
def lcmL (qs : List Rat) : Nat := qs.foldl (fun l q => Nat.lcm l q.den) 1
theorem lcmL_more (qs : List Rat) (q : Rat) : lcmL (qs ++ [q]) = Nat.lcm (lcmL qs) q.den := by unfold lcmL; rw [List.foldl_append]; rfl
theorem foldl_dvd (qs : List Rat) : ∀ l : Nat, l ∣ qs.foldl (fun l q => Nat.lcm l q.den) l ∧ ∀ q ∈ qs, q.den ∣ qs.foldl (fun l q => Nat.lcm l q.den) l := by
  induction qs with
  | nil => intro l; exact ⟨Nat.dvd_refl _, fun q h => by cases h⟩
  | cons p r ih =>
    intro l
    obtain ⟨h1, h2⟩ := ih (Nat.lcm l p.den)
    refine ⟨Nat.dvd_trans (Nat.dvd_lcm_left ..) h1, fun q h => ?_⟩
    rcases List.mem_cons.mp h with rfl | h
    · exact Nat.dvd_trans (Nat.dvd_lcm_right ..) h1
    · exact h2 q h
theorem lcmL_dvd {qs : List Rat} {q : Rat} (h : q ∈ qs) : q.den ∣ lcmL qs := (foldl_dvd qs 1).2 q h
theorem foldl_pos (qs : List Rat) : ∀ l : Nat, 0 < l → 0 < qs.foldl (fun l q => Nat.lcm l q.den) l := by
  induction qs with
  | nil => intro l h; exact h
  | cons p r ih => intro l h; exact ih _ (Nat.lcm_pos h p.den_pos)
theorem lcmL_pos (qs : List Rat) : 0 < lcmL qs := foldl_pos qs 1 (by decide)
theorem foldl_le {n : Nat} (qs : List Rat) : ∀ (l k : Nat), l ≤ 2 ^ k → (∀ q ∈ qs, q.den < 2 ^ n) → qs.foldl (fun l q => Nat.lcm l q.den) l ≤ 2 ^ (k + n * qs.length) := by
  induction qs with
  | nil => intro l k h _; simpa using h
  | cons p r ih =>
    intro l k h hq
    have h1 : Nat.lcm l p.den ≤ 2 ^ (k + n) := by
      rw [Nat.pow_add]
      exact Nat.le_trans (Nat.div_le_self ..) (Nat.mul_le_mul h (Nat.le_of_lt (hq p (List.mem_cons_self ..))))
    have h2 := ih _ (k + n) h1 fun q hm => hq q (List.mem_cons_of_mem _ hm)
    rw [List.length_cons, Nat.mul_add, Nat.mul_one, show k + (n * r.length + n) = k + n + n * r.length by omega]
    exact h2
theorem lcmL_le {n : Nat} {qs : List Rat} (h : ∀ q ∈ qs, q.den < 2 ^ n) : lcmL qs ≤ 2 ^ (n * qs.length) := by
  have := foldl_le qs 1 0 (by decide) h
  rwa [Nat.zero_add] at this
theorem divInt_add (a b : Int) (L : Nat) (h : 0 < L) : Rat.divInt (a + b) L = Rat.divInt a L + Rat.divInt b L := by
  have hL : (L : Int) ≠ 0 := by omega
  rw [Rat.divInt_add_divInt _ _ hL hL, ← Int.add_mul, Rat.divInt_mul_right hL]
theorem divInt_part {q : Rat} {L : Nat} (h : 0 < L) (d : q.den ∣ L) : Rat.divInt (q.num * ((L / q.den : Nat) : Int)) L = q := by
  obtain ⟨k, rfl⟩ := d
  have hk : (k : Int) ≠ 0 := by
    intro z
    have : k = 0 := by omega
    subst this
    simp at h
  rw [Nat.mul_div_cancel_left _ q.den_pos, Int.natCast_mul, Rat.divInt_mul_right hk, Rat.num_divInt_den]
theorem total_eq (L : Nat) (h0 : 0 < L) : ∀ qs : List Rat, (∀ q ∈ qs, q.den ∣ L) → Rat.divInt ((qs.map fun q => q.num * ((L / q.den : Nat) : Int)).sum) L = qs.sum
  | [], _ => by simp [Rat.divInt_eq_div, Rat.div_def]
  | q :: r, h => by
    rw [List.map_cons, List.sum_cons, List.sum_cons, divInt_add _ _ _ h0, divInt_part h0 (h q (List.mem_cons_self ..)), total_eq L h0 r fun p hp => h p (List.mem_cons_of_mem _ hp)]
/-! the first least one -/
def leastTo (qs : List Rat) : Nat → Nat
  | 0 => 0
  | i + 1 => if qs.getD (i + 1) 0 < qs.getD (leastTo qs i) 0 then i + 1 else leastTo qs i
theorem leastTo_le (qs : List Rat) : ∀ i, leastTo qs i ≤ i
  | 0 => Nat.le_refl _
  | i + 1 => by
    unfold leastTo
    split
    · exact Nat.le_refl _
    · exact Nat.le_succ_of_le (leastTo_le qs i)
end WM
namespace WM
/-! Euclid as the laws write it -/
theorem frac_num (n d : Int) (hd : d ≠ 0) (c : Int) (hc : c = if 0 < d then ((Nat.gcd n.natAbs d.natAbs : Nat) : Int) else -((Nat.gcd n.natAbs d.natAbs : Nat) : Int)) : n.fdiv c = (Rat.divInt n d).num := by
  refine fdiv_num n d hd c ?_
  rw [hc]
  by_cases h : 0 < d
  · rw [if_pos h, if_neg (by omega)]
  · rw [if_neg h, if_pos (by omega)]
theorem frac_den (n d : Int) (hd : d ≠ 0) (c : Int) (hc : c = if 0 < d then ((Nat.gcd n.natAbs d.natAbs : Nat) : Int) else -((Nat.gcd n.natAbs d.natAbs : Nat) : Int)) : d.fdiv c = ((Rat.divInt n d).den : Int) := by
  refine fdiv_den n d hd c ?_
  rw [hc]
  by_cases h : 0 < d
  · rw [if_pos h, if_neg (by omega)]
  · rw [if_neg h, if_pos (by omega)]
theorem euclid {a b : Int} (ha : 0 ≤ a) (hb : 0 < b) : Nat.gcd b.natAbs (a % b).natAbs = Nat.gcd a.natAbs b.natAbs := by
  have e : (a % b).natAbs = a.natAbs % b.natAbs := by
    have h1 : ((a.natAbs % b.natAbs : Nat) : Int) = a % b := by
      rw [Int.natCast_emod]
      congr 1 <;> omega
    omega
  rw [e, Nat.gcd_comm b.natAbs, ← Nat.gcd_rec, Nat.gcd_comm]
/-! sizes -/
theorem add_size {n m : Nat} {q r : Rat} (h1 : q.num.natAbs < 2 ^ n) (h2 : q.den < 2 ^ n) (g1 : r.num.natAbs < 2 ^ m) (g2 : r.den < 2 ^ m) : (q + r).num.natAbs < 2 ^ (n + m + 1) ∧ (q + r).den < 2 ^ (n + m + 1) := by
  have hd : (q.den : Int) * (r.den : Int) ≠ 0 := Int.ne_of_gt (Int.mul_pos (den_pos q) (den_pos r))
  rw [← add_eq q r]
  have e : 2 ^ (n + m + 1) = 2 ^ n * 2 ^ m + 2 ^ n * 2 ^ m := by rw [Nat.pow_succ, Nat.pow_add]; omega
  have l1 : q.num.natAbs * r.den < 2 ^ n * 2 ^ m := Nat.mul_lt_mul'' h1 g2
  have l2 : r.num.natAbs * q.den < 2 ^ n * 2 ^ m := by
    rw [Nat.mul_comm]
    exact Nat.mul_lt_mul'' h2 g1
  have l3 : q.den * r.den < 2 ^ n * 2 ^ m := Nat.mul_lt_mul'' h2 g2
  constructor
  · refine Nat.lt_of_le_of_lt (num_le _ _ hd) (Nat.lt_of_le_of_lt (Int.natAbs_add_le _ _) ?_)
    rw [Int.natAbs_mul, Int.natAbs_mul, Int.natAbs_natCast, Int.natAbs_natCast, e]
    omega
  · refine Nat.lt_of_le_of_lt (den_le _ _ hd) ?_
    rw [Int.natAbs_mul, Int.natAbs_natCast, Int.natAbs_natCast, e]
    omega
end WM
set_option Elab.async false
set_option linter.all false
set_option maxRecDepth 100000
set_option maxHeartbeats 4000000
/-! Lists: comprehensions and walks by a relation -/
namespace WB
open PySem PySem.Spec PyProof.Rows L2 WH
theorem pi_either {X : Cx} {tg it : Expr} {t u : TI} (h1 : PI X tg it t) (h2 : PI X tg it u) : PI X tg it (fun σ H R => t σ H R ∨ u σ H R) :=
  ⟨fun pins s σ H R I h => h.elim (h1.run pins s σ H R I) (h2.run pins s σ H R I)⟩
theorem pe_either {X : Cx} {e : Expr} {t u : TE} (h1 : PE X e t) (h2 : PE X e u) : PE X e (fun σ H Q => t σ H Q ∨ u σ H Q) :=
  ⟨fun pins s σ H Q I h => h.elim (h1.run pins s σ H Q I) (h2.run pins s σ H Q I)⟩
/-- stable: what holds of a value while the heap grows -/
def Stab (R : Nat → V → Hp → Prop) : Prop := ∀ i v H H', Ex H H' → R i v H → R i v H'
theorem SqL.ex {K : Fg} {H H' : Hp} {a : Addr} {xs : List V} (h : SqL K H a xs) (e : Ex H H') : SqL K H' a xs := by
  rcases h with (h | ⟨o, h⟩) | h
  · exact .inl (.inl (e _ _ h))
  · exact .inl (.inr ⟨o, e _ _ h⟩)
  · exact .inr h
theorem SqT.ex {K : Fg} {H H' : Hp} {a : Addr} {xs : List V} (h : SqT K H a xs) (e : Ex H H') : SqT K H' a xs := by
  rcases h with (h | ⟨o, h⟩) | h
  · exact .inl (.inl (e _ _ h))
  · exact .inl (.inr ⟨o, e _ _ h⟩)
  · exact .inr h
theorem len_line {n : Nat} (h : n ≤ 100000) : n < sizeLine := Nat.lt_of_le_of_lt h (by decide)
/-- what a comprehension over n items has made behind i of them -/
def Made1 (R : Nat → V → Hp → Prop) (H : Hp) (D : Addr) (i : Nat) (H' : Hp) : Prop := Ex H H' ∧ ∃ bs, H' D = some (.lst bs) ∧ bs.length = i ∧ ∀ j v, bs[j]? = some v → R j v H'
theorem Made1.start {R : Nat → V → Hp → Prop} {H : Hp} {D : Addr} (hD : H D = none) : Made1 R H D 0 (upd H D (.lst [])) := ⟨Ex.new hD, [], upd_same, rfl, fun j v h => by simp at h⟩
theorem Made1.turn {R : Nat → V → Hp → Prop} {H H' H2 : Hp} {D : Addr} {i : Nat} {v : V} (sR : Stab R) (hD : H D = none) (hi : i ≤ 100000) (m : Made1 R H D i H') (e : Ex H' H2) (hv : R i v H2)
    (st : ∀ j v H acc acc0, H D = some (.lst acc0) → R j v H → R j v (upd H D (.lst acc))) : ∃ acc, H2 D = some (.lst acc) ∧ acc.length < sizeLine ∧ Made1 R H D (i + 1) (upd H2 D (.lst (acc ++ [v]))) := by
  obtain ⟨e0, bs, hb, hl, hr⟩ := m
  refine ⟨bs, e _ _ hb, by rw [hl]; exact len_line hi, (e0.trans e).mut hD, bs ++ [v], upd_same, by rw [List.length_append, hl]; rfl, fun j u hj => ?_⟩
  rcases Nat.lt_or_ge j bs.length with h | h
  · rw [List.getElem?_append_left h] at hj
    exact st j u _ _ _ (e _ _ hb) (sR j u _ _ e (hr j u hj))
  · rw [List.getElem?_append_right h] at hj
    have h1 : j - bs.length < [v].length := (List.getElem?_eq_some_iff.mp hj).1
    have h2 : j = bs.length := by simp at h1; omega
    subst h2
    simp at hj
    subst hj
    rw [hl]
    exact st i v _ _ _ (e _ _ hb) hv
/-- [e for x in xs], e's value told by R, which looks at no list that grows -/
theorem lc_rel {K : Fg} {a : Addr} {xs : List V} {te : TE} {j : Nat} {vs : List Nat} {σ : L2.St} {H : Hp} {D : Addr} {Qd : Hp → Prop} (R : Nat → V → Hp → Prop) (sR : Stab R) (st : ∀ i v H acc acc0, H D = some (.lst acc0) → R i v H → R i v (upd H D (.lst acc)))
    (hD : H D = none) (hx : SqL K H a xs) (hz : xs.length ≤ 100000) (hw : ∀ x, wipe ((wipe σ vs).set j (some x)) vs = wipe σ vs)
    (step : ∀ i x H', Ex H H' → xs[i]? = some x → ∀ Q : VK, (∀ v H2, Ex H' H2 → R i v H2 → Q v H2) → te ((wipe σ vs).set j (some x)) H' Q)
    (k : ∀ bs H', Ex H H' → H' D = some (.lst bs) → bs.length = xs.length → (∀ i v, bs[i]? = some v → R i v H') → Qd H') :
    ∃ W : Nat → Nat → Hp → Prop, (∃ m, W 0 m (upd H D (.lst []))) ∧ ∀ i m H', W i m H' → ((Itl K a).stop i H' ∧ Qd H') ∨ ((Itl K a).go i H' ∧ ∃ Nx : Hp → Prop, (∀ H'', Nx H'' → ∃ m', m' < m ∧ W (i + 1) m' H'') ∧ ∀ x H'', (Itl K a).yld i H' x H'' → gName j x (wipe σ vs) H'' fun σ2 H2 =>
      wipe σ2 vs = wipe σ vs ∧ tYes σ2 H2 fun b H3 => if b = true then te σ2 H3 fun y H4 => ∃ acc, H4 D = some (.lst acc) ∧ acc.length < sizeLine ∧ Nx (upd H4 D (.lst (acc ++ [y]))) else Nx H3) :=
  lc_list (K := K) (a := a) (xs := xs) (Made1 R H D) (.start hD) (fun i H' _ m => SqL.ex hx m.1) (fun i x H' hi m => ⟨hw x, by
    refine iteT (B := Made1 R H D (i + 1) H') ?_
    exact step i x H' m.1 hi _ fun v H2 e hv => m.turn sR hD (by have := (List.getElem?_eq_some_iff.mp hi).1; omega) e hv st⟩)
    fun H' ⟨e, bs, hb, hl, hr⟩ => k bs H' e hb hl hr
theorem lc_relT {K : Fg} {a : Addr} {xs : List V} {te : TE} {j : Nat} {vs : List Nat} {σ : L2.St} {H : Hp} {D : Addr} {Qd : Hp → Prop} (R : Nat → V → Hp → Prop) (sR : Stab R) (st : ∀ i v H acc acc0, H D = some (.lst acc0) → R i v H → R i v (upd H D (.lst acc)))
    (hD : H D = none) (hx : SqT K H a xs) (hz : xs.length ≤ 100000) (hw : ∀ x, wipe ((wipe σ vs).set j (some x)) vs = wipe σ vs)
    (step : ∀ i x H', Ex H H' → xs[i]? = some x → ∀ Q : VK, (∀ v H2, Ex H' H2 → R i v H2 → Q v H2) → te ((wipe σ vs).set j (some x)) H' Q)
    (k : ∀ bs H', Ex H H' → H' D = some (.lst bs) → bs.length = xs.length → (∀ i v, bs[i]? = some v → R i v H') → Qd H') :
    ∃ W : Nat → Nat → Hp → Prop, (∃ m, W 0 m (upd H D (.lst []))) ∧ ∀ i m H', W i m H' → ((Itt K a).stop i H' ∧ Qd H') ∨ ((Itt K a).go i H' ∧ ∃ Nx : Hp → Prop, (∀ H'', Nx H'' → ∃ m', m' < m ∧ W (i + 1) m' H'') ∧ ∀ x H'', (Itt K a).yld i H' x H'' → gName j x (wipe σ vs) H'' fun σ2 H2 =>
      wipe σ2 vs = wipe σ vs ∧ tYes σ2 H2 fun b H3 => if b = true then te σ2 H3 fun y H4 => ∃ acc, H4 D = some (.lst acc) ∧ acc.length < sizeLine ∧ Nx (upd H4 D (.lst (acc ++ [y]))) else Nx H3) :=
  lc_tup (K := K) (a := a) (xs := xs) (Made1 R H D) (.start hD) (fun i H' _ m => SqT.ex hx m.1) (fun i x H' hi m => ⟨hw x, by
    refine iteT (B := Made1 R H D (i + 1) H') ?_
    exact step i x H' m.1 hi _ fun v H2 e hv => m.turn sR hD (by have := (List.getElem?_eq_some_iff.mp hi).1; omega) e hv st⟩)
    fun H' ⟨e, bs, hb, hl, hr⟩ => k bs H' e hb hl hr
/-- for lists of quotients -/
theorem RatAt.st {C : Addr} {H : Hp} {a D : Addr} {q : Rat} {acc acc0 : List V} (h : H D = some (.lst acc0)) (r : RatAt C H a q) : RatAt C (upd H D (.lst acc)) a q := by
  obtain ⟨dx, r⟩ := r
  exact ⟨dx, by rw [upd_ne (ne_of r h (by intro z; cases z))]; exact r⟩
theorem NumAt.st {C : Addr} {H : Hp} {v : V} {D : Addr} {q : Rat} {acc acc0 : List V} (h : H D = some (.lst acc0)) (r : NumAt C H v q) : NumAt C (upd H D (.lst acc)) v q := r.elim .inl fun ⟨a, e, r⟩ => .inr ⟨a, e, r.st h⟩
/-- the values are numbers -/
def NumsAt (C : Addr) (H : Hp) (vs : List V) (qs : List Rat) : Prop := vs.length = qs.length ∧ ∀ (i : Nat) v q, vs[i]? = some v → qs[i]? = some q → NumAt C H v q
theorem NumsAt.ex {C : Addr} {H H' : Hp} {vs : List V} {qs : List Rat} (h : NumsAt C H vs qs) (e : Ex H H') : NumsAt C H' vs qs := ⟨h.1, fun i v q a b => (h.2 i v q a b).ex e⟩
theorem NumsAt.at {C : Addr} {H : Hp} {vs : List V} {qs : List Rat} (h : NumsAt C H vs qs) {i : Nat} {v : V} (e : vs[i]? = some v) : ∃ q, qs[i]? = some q ∧ NumAt C H v q := by
  have l := (List.getElem?_eq_some_iff.mp e).1
  rw [h.1] at l
  exact ⟨qs[i], List.getElem?_eq_getElem l, h.2 i v _ e (List.getElem?_eq_getElem l)⟩
/-- a list or a tuple -/
def SqX (K : Fg) (H : Hp) (a : Addr) (xs : List V) : Prop := SqL K H a xs ∨ SqT K H a xs
theorem SqX.ex {K : Fg} {H H' : Hp} {a : Addr} {xs : List V} (h : SqX K H a xs) (e : Ex H H') : SqX K H' a xs := h.elim (fun h => .inl (SqL.ex h e)) fun h => .inr (SqT.ex h e)
/-- for x in xs, a list or a tuple at a -/
theorem for_seq {K : Fg} {a : Addr} {xs : List V} {g : TG} {tb : TS} {D : Ends} {σ : L2.St} {Hs H : Hp} {j : Nat} (hj : σ[j]? = some (some (.ref a))) (hx : SqX K Hs a xs) (Pv : Nat → L2.St → Hp → Prop) (h0 : Pv 0 σ H) (ex : ∀ i σ' H', Pv i σ' H' → Ex Hs H')
    (step : ∀ (i : Nat) (x : V) (σ : L2.St) (H : Hp), xs[i]? = some x → Pv i σ H → g x σ H fun σ2 H2 => tb { nx := Pv (i + 1), rt := D.rt, bk := D.nx, ct := Pv (i + 1) } σ2 H2) (fin : ∀ σ H, Pv xs.length σ H → D.nx σ H) :
    tFor (fun σ H R => iList K (tVar j) σ H R ∨ iTup K (tVar j) σ H R) g tb D σ H := by
  rcases hx with hx | hx
  · exact .inl ⟨_, hj, a, rfl, ⟨_, SqL.ex hx (ex _ _ _ h0)⟩, for_list (K := K) (a := a) (xs := xs) Pv h0 (fun i σ' H' _ q => SqL.ex hx (ex i σ' H' q)) step fin⟩
  · exact .inr ⟨_, hj, a, rfl, ⟨_, SqT.ex hx (ex _ _ _ h0)⟩, for_tup (K := K) (a := a) (xs := xs) Pv h0 (fun i σ' H' _ q => SqT.ex hx (ex i σ' H' q)) step fin⟩
/-- [e for x in xs], over a list or a tuple -/
theorem lc_relX {K : Fg} {a : Addr} {xs : List V} {te : TE} {j j0 : Nat} {vs : List Nat} {σ : L2.St} {H : Hp} {Qv : VK} (hj : σ[j0]? = some (some (.ref a))) (R : Nat → V → Hp → Prop) (sR : Stab R) (st : ∀ (D : Addr) i v H acc acc0, H D = some (.lst acc0) → R i v H → R i v (upd H D (.lst acc)))
    (hx : SqX K H a xs) (hz : xs.length ≤ 100000) (hw : ∀ x, wipe ((wipe σ vs).set j (some x)) vs = wipe σ vs)
    (step : ∀ i x H', Ex H H' → xs[i]? = some x → ∀ Q : VK, (∀ v H2, Ex H' H2 → R i v H2 → Q v H2) → te ((wipe σ vs).set j (some x)) H' Q)
    (k : ∀ D bs H', H D = none → Ex H H' → H' D = some (.lst bs) → bs.length = xs.length → (∀ i v, bs[i]? = some v → R i v H') → Qv (.ref D) H') :
    tLc (fun σ H R => iList K (tVar j0) σ H R ∨ iTup K (tVar j0) σ H R) (gName j) tYes te vs σ H Qv := by
  rcases hx with hx | hx
  · exact .inl ⟨_, hj, a, rfl, ⟨_, hx⟩, fun D hD => lc_rel (Qd := Qv (.ref D)) R sR (st D) hD hx hz hw step fun bs H' e hb hl hr => k D bs H' hD e hb hl hr⟩
  · exact .inr ⟨_, hj, a, rfl, ⟨_, hx⟩, fun D hD => lc_relT (Qd := Qv (.ref D)) R sR (st D) hD hx hz hw step fun bs H' e hb hl hr => k D bs H' hD e hb hl hr⟩
end WB
namespace WB
open PySem PySem.Spec PyProof.Rows L2 WH
theorem TyX_new {K : Fg} {H : Hp} {x : V} {t : Value} {p : Addr} {o : HO} (h : TyX K H x t) (hp : H p = none) : TyX K (upd H p o) x t := by
  have at_ : ∀ {a : Addr} {u : HO}, H a = some u → upd H p o a = some u := fun e => by rw [upd_ne (ne_of_none e hp)]; exact e
  cases h with
  | base b =>
    refine .base ?_
    cases b with
    | non => exact .non
    | bl y => exact .bl y
    | int i => exact .int i
    | str y => exact .str y
    | flt y => exact .flt y
    | lst e => exact .lst (at_ e)
    | frz e => exact .frz (at_ e)
    | tup e => exact .tup (at_ e)
    | dK e => exact .dK (at_ e)
    | dT e => exact .dT (at_ e)
    | ins e c1 c2 c3 c4 c5 => exact .ins (at_ e) c1 c2 c3 c4 c5
  | byt y => exact .byt y
  | set e => exact .set (at_ e)
  | kList e c => exact .kList e c
  | kTuple e c => exact .kTuple e c
  | kDict e c => exact .kDict e c
  | fTuple e => exact .fTuple (at_ e)
  | fDict e => exact .fDict (at_ e)
end WB
namespace WB
open PySem PySem.Spec PyProof.Rows L2 WH
/-! ### all but one object is kept -/
def Kp (m : Addr) (H H' : Hp) : Prop := ∀ a o, H a = some o → a ≠ m → H' a = some o
theorem Kp.rfl {m : Addr} {H : Hp} : Kp m H H := fun _ _ h _ => h
theorem Kp.trans {m : Addr} {H H1 H2 : Hp} (a : Kp m H H1) (b : Kp m H1 H2) : Kp m H H2 := fun x o h n => b x o (a x o h n) n
theorem Ex.kp {m : Addr} {H H' : Hp} (e : Ex H H') : Kp m H H' := fun a o h _ => e a o h
theorem Kp.set {m : Addr} {H : Hp} {o : HO} : Kp m H (upd H m o) := fun a u h n => by rw [upd_ne n]; exact h
/-- the bag of a law: a great rest, a seed, a count up to n -/
def BagAt (H : Hp) (m : Addr) (n : Nat) : Prop := ∃ x y z : Int, H m = some (.lst [.int x, .int y, .int z]) ∧ 0 ≤ x ∧ 0 ≤ y ∧ y < 2147483629 ∧ 0 ≤ z ∧ z ≤ (n : Int)
theorem BagAt.ex {H H' : Hp} {m : Addr} {n : Nat} (b : BagAt H m n) (e : Ex H H') : BagAt H' m n := by
  obtain ⟨x, y, z, h, r⟩ := b
  exact ⟨x, y, z, e _ _ h, r⟩
theorem BagAt.mono {H : Hp} {m : Addr} {n k : Nat} (b : BagAt H m n) (l : n ≤ k) : BagAt H m k := by
  obtain ⟨x, y, z, h, h1, h2, h3, h4, h5⟩ := b
  exact ⟨x, y, z, h, h1, h2, h3, h4, by omega⟩
theorem BagAt.ne {H : Hp} {m a : Addr} {n : Nat} {o : HO} (b : BagAt H m n) (h : H a = some o) (d : ∀ xs, o ≠ .lst xs) : a ≠ m := by
  obtain ⟨x, y, z, hm, _⟩ := b
  exact ne_of h hm (d _)
theorem RatAt.kp {C : Addr} {H H' : Hp} {m a : Addr} {n : Nat} {q : Rat} (r : RatAt C H a q) (b : BagAt H m n) (k : Kp m H H') : RatAt C H' a q := by
  obtain ⟨dx, h⟩ := r
  exact ⟨dx, k _ _ h (b.ne h fun _ z => by cases z)⟩
theorem NumAt.kp {C : Addr} {H H' : Hp} {m : Addr} {v : V} {n : Nat} {q : Rat} (r : NumAt C H v q) (b : BagAt H m n) (k : Kp m H H') : NumAt C H' v q := r.elim .inl fun ⟨a, e, r⟩ => .inr ⟨a, e, r.kp b k⟩
/-- a quotient as a tuple of its top and bottom -/
def RPair (H : Hp) (p : Addr) (q : Rat) : Prop := H p = some (.tup [.int q.num, .int q.den])
theorem RPair.ex {H H' : Hp} {p : Addr} {q : Rat} (r : RPair H p q) (e : Ex H H') : RPair H' p q := e _ _ r
theorem RPair.kp {H H' : Hp} {m p : Addr} {n : Nat} {q : Rat} (r : RPair H p q) (b : BagAt H m n) (k : Kp m H H') : RPair H' p q := k _ _ r (b.ne r fun _ z => by cases z)
theorem RPair.sq {K : Fg} {H : Hp} {p : Addr} {q : Rat} (r : RPair H p q) : SqT K H p [.int q.num, .int q.den] := SqT.of r
def RetPair (H : Hp) (Q : VK) (q : Rat) : Prop := ∀ p H', H p = none → Ex H H' → RPair H' p q → Q (.ref p) H'
/-- a bag may not be new -/
theorem BagAt.free {H : Hp} {m p : Addr} {n : Nat} (b : BagAt H m n) (h : H p = none) : p ≠ m := by
  obtain ⟨x, y, z, hm, _⟩ := b
  exact (ne_of_none hm h).symm
end WB
namespace WB
open PySem PySem.Spec PyProof.Rows L2 WH
/-! ### within a comprehension: the written part is the one around it -/
section
variable {X : Cx} {s0 : Shared} {H0 : Hp} {scope : Scope} {cenv : Env} {fp : List Addr}
theorem pe_fldB {e : Expr} {f : Str} {pos : Pos} {ta : TE} (he : PE (X.blk s0 H0 scope cenv fp) e ta) (hb : attributeBase e f (X.blk s0 H0 scope cenv fp).env (eval e (X.blk s0 H0 scope cenv fp).env) = eval e (X.blk s0 H0 scope cenv fp).env) : PE (X.blk s0 H0 scope cenv fp) (.Attribute e f pos) (tFld X.K ta f) := pe_fld he hb
theorem ix_listB : IxR (X.blk s0 H0 scope cenv fp) (rIxL X.K) := ix_list
theorem ix_tupB : IxR (X.blk s0 H0 scope cenv fp) (rIxT X.K) := ix_tup
theorem ix_seqB : IxR (X.blk s0 H0 scope cenv fp) (rIx X.K) := ix_seq
theorem call_isiB : CallR (X.blk s0 H0 scope cenv fp) (.builtin "isinstance") (rIsi X.K) := call_isi
theorem call_lenB : CallR (X.blk s0 H0 scope cenv fp) (.builtin "len") (fun xs H Q => ∃ x n, xs = [x] ∧ LenV X.K x H n ∧ Q (.int n) H) := call_len
theorem op_in_seqB : OpR (X.blk s0 H0 scope cenv fp) (compareOp .In) (rIn X.K false) := op_in_seq
theorem op_notIn_seqB : OpR (X.blk s0 H0 scope cenv fp) (compareOp .NotIn) (rIn X.K true) := op_notIn_seq
theorem op_eqDB (hu : X.A.units + 64 < cLine) : OpR (X.blk s0 H0 scope cenv fp) (compareOp .Eq) (rEqD X.K) := op_eqD hu
theorem op_neDB (hu : X.A.units + 64 < cLine) : OpR (X.blk s0 H0 scope cenv fp) (compareOp .NotEq) (rNeD X.K) := op_neD hu
theorem pi_listB {tg l : Expr} {tl : TE} (hl : PE (X.blk s0 H0 scope cenv fp) l tl) : PI (X.blk s0 H0 scope cenv fp) tg l (iList X.K tl) := pi_list hl
theorem pi_tupB {tg l : Expr} {tl : TE} (hl : PE (X.blk s0 H0 scope cenv fp) l tl) : PI (X.blk s0 H0 scope cenv fp) tg l (iTup X.K tl) := pi_tup hl
end
end WB
set_option Elab.async false
set_option linter.all false
set_option maxRecDepth 100000
set_option maxHeartbeats 4000000
/-! identity with a truth, != of lists with own things, calls by names alone -/
namespace WB
open PySem PySem.Spec PyProof.Rows L2 WH
def rIsAny : R2 := fun x y H Q => ∃ b : Bool, y = .bl b ∧ Q (.bl (decide (x = .bl b))) H
def rNotAny : R2 := fun x y H Q => ∃ b : Bool, y = .bl b ∧ Q (.bl (!decide (x = .bl b))) H
theorem plain_bool {x : V} {v : Value} {b : Bool} (r : RelV x v) : plainIs v (.bool b) = true ∧ (v = .bool b ↔ x = .bl b) := by
  cases x with
  | bl c => cases r; exact ⟨rfl, ⟨fun h => (by cases h; rfl), fun h => (by cases h; rfl)⟩⟩
  | non => cases r; exact ⟨rfl, ⟨fun h => (by cases h), fun h => (by cases h)⟩⟩
  | int i => obtain ⟨t, rfl⟩ := r; exact ⟨rfl, ⟨fun h => (by cases h), fun h => (by cases h)⟩⟩
  | str i => obtain ⟨t, rfl⟩ := r; exact ⟨rfl, ⟨fun h => (by cases h), fun h => (by cases h)⟩⟩
  | byt i => obtain ⟨t, rfl⟩ := r; exact ⟨rfl, ⟨fun h => (by cases h), fun h => (by cases h)⟩⟩
  | flt i => obtain ⟨t, rfl⟩ := r; exact ⟨rfl, ⟨fun h => (by cases h), fun h => (by cases h)⟩⟩
  | ref a => cases r; exact ⟨rfl, ⟨fun h => (by cases h), fun h => (by cases h)⟩⟩
  | ty a => cases r; exact ⟨rfl, ⟨fun h => (by cases h), fun h => (by cases h)⟩⟩
section
variable {X : Cx}
theorem op_isAny : OpR X (compareOp .Is) rIsAny := by
  intro pins s σ H x y v u Q I rx ry ⟨b, ey, q⟩
  subst ey
  cases (show u = Value.bool b from ry)
  obtain ⟨p, e⟩ := plain_bool (b := b) rx
  by_cases h : x = .bl b
  · have hv := e.mpr h
    subst hv
    exact wpAny_is_self p ⟨.bl true, H, I, rfl, by rw [decide_eq_true h] at q; exact q⟩
  · exact wpAny_is_other p (fun z => h (e.mp z)) ⟨.bl false, H, I, rfl, by rw [decide_eq_false h] at q; exact q⟩
theorem op_notAny : OpR X (compareOp .IsNot) rNotAny := by
  intro pins s σ H x y v u Q I rx ry ⟨b, ey, q⟩
  subst ey
  cases (show u = Value.bool b from ry)
  obtain ⟨p, e⟩ := plain_bool (b := b) rx
  by_cases h : x = .bl b
  · have hv := e.mpr h
    subst hv
    exact wpAny_isNot_self p ⟨.bl false, H, I, rfl, by rw [decide_eq_true h] at q; exact q⟩
  · exact wpAny_isNot_other p (fun z => h (e.mp z)) ⟨.bl true, H, I, rfl, by rw [decide_eq_false h] at q; exact q⟩
end
/-! ### == of the same things -/
/-- the very same object on both sides -/
def DSelf : Eqv := fun x y _ => ∃ a, x = .ref a ∧ y = .ref a
theorem mon_self : Mon DSelf := fun _ _ _ _ _ d => d
theorem eqG_self {X : Cx} : EqG X 0 DSelf := by
  intro A pins s σ H x y u v sb I rx ry ⟨a, ex, ey⟩
  subst ex ey
  cases (show u = Value.ref a from rx)
  cases (show v = Value.ref a from ry)
  exact SeqAt.EqAt.same (A := A) (s := s) (.ref a) X.prog X.w X.xe _ ⟨rfl, H, I, fun _ _ h => h⟩
abbrev DThing : Eqv := fun x y H => DFlat x y H ∨ DSelf x y H
theorem op_eqThings {X : Cx} (hr : Room 1 X.A) : OpR X (compareOp .Eq) (rEqG (DList DThing)) := op_eqG (rcG_list (mon_flat.or mon_self) (eqG_flat.or eqG_self)) hr
/-! ### calls by names alone -/
section
variable {X : Cx} {k : Nat} {f C : Addr} {fd : FuncData} {ps ks : List Str} {sp : Sp} {E : XK} {x m : Str} {p pos apos : Pos} {o : Expr} {kws : List Keyword} {ta : TE} {tk : TA} {g : List Value → List Value → List Value} {gV : List V → List V → List V} {pl : Sem Bool}
theorem pe_callK0 (F : FnX X.prog X.w X.K X.mg X.base k f fd ps sp) (hr : Room k X.A) (hm : X.mg x = some (.ref f)) (hk : PySem.W.keepIn X.K (.ref f) = true) (hb : KBn X.K fd ps 0 ks g gV) (hx : Passes (L2.CX X.prog X.w) X E) (hkw : PK X kws tk) (hg : Gl X x := by rfl)
    (h1 : (backToKw pos (keywordEach kws X.env)).all (·.1.isSome) = true := by rfl) (h2 : (backToKw pos (keywordEach kws X.env)).filterMap (·.1) = ks := by rfl) (h3 : (x == ("__debug__" : Str)) = false := by decide)
    (h4 : ((backTo pos (starEach [] X.env)).any (·.1) || (backToKw pos (keywordEach kws X.env)).any (·.1.isNone)) = false := by rfl) : PE X (.Call (.Name x p) [] kws pos) (tCallN 0 ks.length sp gV E tNil tk) := by
  refine ⟨fun pins s σ H Q I h => wpAny_Call_Name_kw (ld_glob I hg hm ?_ h3)⟩
  refine PySem.W.callWith_KW0 (h₀ := X.base) I.ok.mod.kin hk h1 (thn (hkw.run pos pins s σ H _ I h) fun ws s2 ⟨zs, H2, I2, rz, l1, l2, q2⟩ => ⟨I2.kIn, ?_⟩) h4
  rw [h2]
  exact run_fnN (us := []) (vs := []) F hr hb hx I2 .nil rz rfl l2 q2
/-- o.m(k = e, ..) -/
def tMethK (C : Addr) (m : Str) (n : Nat) (sp : Sp) (gV : List V → List V → List V) (E : XK) (ta : TE) (tk : TA) : TE := fun σ H Q => ta σ H fun x H1 => ∃ a dx fs, x = .ref a ∧ H1 a = some (.ins C dx fs) ∧ fs.lookup m = none ∧ tk σ H1 fun zs H2 => zs.length = n ∧ sp (gV [x] zs) H2 Q E
theorem pe_methK0 (he : PE X o ta) (c : Cls X.K C) (hm : Meth X.K C m f) (F : FnX X.prog X.w X.K X.mg X.base k f fd ps sp) (hr : Room k X.A) (hb : KBn X.K fd ps 1 ks g gV) (hx : Passes (L2.CX X.prog X.w) X E) (hkw : PK X kws tk)
    (h1 : (backToKw pos (keywordEach kws X.env)).all (·.1.isSome) = true := by rfl) (h2 : (backToKw pos (keywordEach kws X.env)).filterMap (·.1) = ks := by rfl)
    (h4 : ((backTo pos (starEach [] X.env)).any (·.1) || (backToKw pos (keywordEach kws X.env)).any (·.1.isNone)) = false := by rfl)
    (h5 : eval (.Call (.Attribute o m apos) [] kws pos) X.env = (do let ov ← eval o X.env; standAt apos.atName; let (f, first) ← holding [ov] (getMethod ov m pl); callWith pos f first (backTo pos (starEach [] X.env)) (backToKw pos (keywordEach kws X.env))) := by rfl) :
    PE X (.Call (.Attribute o m apos) [] kws pos) (tMethK C m ks.length sp gV E ta tk) := by
  refine ⟨fun pins s σ H Q I h => PySem.W.methodCall_KW (pl := pl) (thn (he.run pins s σ H _ I h) fun u s1 ⟨x, H1, I1, rx, a, dx, fs, ex, ea, l, q⟩ => ?_) h5⟩
  subst ex
  cases (show u = Value.ref a from rx)
  refine getmeth_ok I1 ea c hm l (PySem.W.callWith_KW0 (first := [.ref a]) (h₀ := X.base) I.ok.mod.kin hm.kp h1 (thn (hkw.run pos pins s1 σ H1 _ I1 q) fun ws s2 ⟨zs, H2, I2, rz, l2, q2⟩ => ⟨I2.kIn, ?_⟩) h4)
  rw [h2]
  exact run_fnN (us := [.ref a]) (vs := [.ref a]) F hr hb hx I2 (.cons rx .nil) rz rfl l2 q2
end
/-- how names bind, for a def without defaults -/
theorem kbn_of {K : Fg} {x q : Str} {st : Stmt} {f : Addr} {fd : FuncData} {ps ks : List Str} (F : FnP K x q st [] f fd) (n : Nat) (g : {α : Type} → List α → List α → List α) (hrel : ∀ {vs zs : List V} {us ws : List Value}, Vals vs us → Vals zs ws → Vals (g vs zs) (g us ws))
    (h : ∀ (kV doc pm : Value) (an : Option Addr) (cdv ct : Value) (us ws : List Value), us.length = n → ws.length = ks.length → bindArgs (PySem.W.fnOf x q (defArgs st) (defBody st) (defScope st) .none kV doc pm an cdv ct) ⟨us, ks.zip ws⟩ = pure (ps.zip (g us ws))) :
    KBn K fd ps n ks (fun us ws => g us ws) (fun vs zs => g vs zs) := by
  obtain ⟨oc, od, dV, kV, doc, pm, an, cdv, ct, osl, rfl, lk, hcd, hD, hK⟩ := F.ex
  rcases hD with ⟨_, e⟩ | ⟨e, _⟩
  · subst e
    exact ⟨fun s us ws _ l1 l2 => BindsTo.of_eq (h kV doc pm an cdv ct us ws l1 l2), fun r1 r2 => hrel r1 r2⟩
  · exact absurd rfl e
end WB
set_option Elab.async false
set_option linter.all false
set_option maxRecDepth 100000
set_option maxHeartbeats 4000000
/-! != of two lists whose items are equal, some by an own == -/
namespace WNe
open PySem PySem.SeqAt AutoSeq1 MeetsSeq MeetsSeq2 MeetsSeq3 SeqRoads2
section
variable {prog : Program} {w : World} {A : Around} {R : Result → Shared → Prop}
theorem walk (l b : Addr) (N : Nat) (I : Nat → Shared → Prop) (items : GQ.ListI prog w A (fun e s' => R (.error e) s') l b N I) (last : ∀ s, I N s → R (.ok (.ret (.bool false))) s) : ∀ (k i : Nat), N - i = k → i ≤ N → ∀ s, I i s →
    wpAny (model prog w) A.in1 (Builtin.«list.__eq__.loop» ⟨[.ref l, .ref b, rawInt i, rawInt 3], []⟩) (GQ.FinOf prog w A R) (fun e s' => R (.error e) s') s
  | 0, i, hk, hi, s, h => by
    obtain ⟨xs, ys, n, n2, gx, gy, sx, sy, _⟩ := items _ _ h
    have e : i = N := by omega
    have done := last s (e ▸ h)
    obtain ⟨hp, g, d, tk, os⟩ := s
    wp_walk using wpAny_loadPart' gx, wpAny_loadPart' gy
    have nx : xs[((i : Nat) : Int).toNat]? = none := by simp; omega
    have ny : ys[((i : Nat) : Int).toNat]? = none := by simp; omega
    rw [nx, ny]
    wp_walk using wpAny_loadPart' gx, wpAny_loadPart' gy
    show R (.ok (.ret (.bool (xs.size != ys.size)))) _
    rw [sx, sy]
    simpa using done
  | k + 1, i, hk, hi, s, h => by
    obtain ⟨xs, ys, n, n2, gx, gy, sx, sy, turn⟩ := items _ _ h
    have lx : i < xs.size := by omega
    have ly : i < ys.size := by omega
    have one := turn lx ly
    obtain ⟨hp, g, d, tk, os⟩ := s
    wp_walk using wpAny_loadPart' gx, wpAny_loadPart' gy
    have nx : xs[((i : Nat) : Int).toNat]? = some xs[i] := by simp [lx]
    have ny : ys[((i : Nat) : Int).toNat]? = some ys[i] := by simp [ly]
    have ei : ((i : Int) + 1) = ((i + 1 : Nat) : Int) := by omega
    rw [nx, ny]
    refine wpAny_bind (wpAny_mono one (fun r s2 z => ?_) fun _ _ z => z)
    obtain ⟨er, h2⟩ := z
    subst er
    have more := walk l b N I items last k (i + 1) (by omega) (by omega) s2 h2
    obtain ⟨hp2, g2, d2, tk2, os2⟩ := s2
    wp_walk
    rw [ei]
    refine ⟨plainId_quiet plain_eq_loop _, codeAny_builtin entry_eq_loop ?_⟩
    rw [Around.under_plainId plain_eq_loop _]
    exact more
theorem body (l b : Addr) (N : Nat) (I : Nat → Shared → Prop) (items : GQ.ListI prog w A (fun e s' => R (.error e) s') l b N I) (last : ∀ s, I N s → R (.ok (.ret (.bool false))) s) {s : Shared} (h : I 0 s) :
    wpAny (model prog w) A.in1 (Builtin.«list.__ne__» ⟨[.ref l, .ref b], []⟩) (GQ.FinOf prog w A R) (fun e s' => R (.error e) s') s := by
  obtain ⟨xs, ys, n, n2, gx, gy, sx, sy, _⟩ := items _ _ h
  have more := walk (A := A) (R := R) l b N I items last _ 0 rfl (Nat.zero_le _) s h
  obtain ⟨hp, g, d, tk, os⟩ := s
  have f3 := AutoSeq1.sub_list_list
  have same : ¬ (xs.size != ys.size) = true := by simp [sx, sy]
  wp_walk using wpAny_loadPart' gx, wpAny_loadPart' gy
  refine ⟨plainId_quiet plain_eq_loop _, codeAny_builtin entry_eq_loop ?_⟩
  rw [Around.under_plainId plain_eq_loop _]
  exact more
end
theorem rich {prog : Program} {w : World} {A : Around} {E : Value → Shared → Prop} {s : Shared} {l b : Addr} {N : Nat} {Q : Value → Shared → Prop} (hu : A.units < cLine) (I : Nat → Shared → Prop) (items : GQ.ListI prog w A E l b N I)
    (last : ∀ s, I N s → Q (.bool false) s) (h : I 0 s) : wpAny (model prog w) A (richCompare .NotEq (.ref l) (.ref b)) Q E s := by
  obtain ⟨xs, ys, n, n2, gx, gy, _, _, _⟩ := items _ _ h
  refine wpAny_richCompare_same_room (op := .NotEq) ⟨_, gx, rfl⟩ ⟨_, gy, rfl⟩ F.slot_list_ne (GQ.call_here F.slot_list_ne ⟨_, gx, rfl⟩ F.entry_list_ne (F.args_list_ne_2 _ _) ?_) hu
  exact body (R := wants (fun v s' => v ≠ .notImplemented ∧ Q v s') E) l b N I items (fun s' q => ⟨(fun z => nomatch z), last s' q⟩) h
end WNe
namespace WB
open PySem PySem.Spec PyProof.Rows L2 WH
def rNeG (D : Eqv) : R2 := fun x y H Q => DList D x y H ∧ ∀ H', L2.Ext H H' → Q (.bl false) H'
theorem op_neG {X : Cx} {n : Nat} {D : Eqv} (hD : Mon D) (h : EqG X n D) (hr : Room (n + 1) X.A) : OpR X (compareOp .NotEq) (rNeG D) := by
  intro pins s σ H x y v u Q I rx ry ⟨d, q⟩
  obtain ⟨a, b, xs, ys, ex, ey, ha, hb, p⟩ := d
  subst ex ey
  cases (show v = Value.ref a from rx)
  cases (show u = Value.ref b from ry)
  show wpAny _ _ (richCompare .NotEq (.ref a) (.ref b)) _ _ _
  refine WNe.rich (N := xs.length) hr.units0 (fun _ s' => LoopI X pins σ H s') (fun i s' z => ?_) (fun s' z => ?_) ⟨H, I, fun _ _ h => h⟩
  · obtain ⟨H1, I1, e1⟩ := id z
    obtain ⟨z1, us, k1, r1, g1⟩ := I1.hok a _ (e1 _ _ ha)
    obtain ⟨z2, ws, k2, r2, g2⟩ := I1.hok b _ (e1 _ _ hb)
    exact ⟨us.toArray, ws.toArray, k1, k2, g1, g2, by rw [List.size_toArray, ← r1.length], by rw [List.size_toArray, ← r2.length, ← p.1], fun h1 h2 => turnG hD h ⟨hr, rfl⟩ p r1 r2 i h1 h2 s' z⟩
  · obtain ⟨H1, I1, e1⟩ := z
    exact ⟨.bl false, H1, I1, rfl, q H1 e1⟩
/-- an own thing on the left of what its == says is equal -/
def DOwn (K : Fg) (C : Addr) (R : Addr → V → Hp → Prop) : Eqv := fun x y H => ∃ a dx fs, x = .ref a ∧ H a = some (.ins C dx fs) ∧ (∃ i, y = .int i) ∧ R a y H
end WB
set_option Elab.async false
set_option linter.all false
set_option maxRecDepth 100000
set_option maxHeartbeats 4000000
/-! calls by names alone, as their callers know them -/
namespace WB
open PySem PySem.Spec PyProof.Rows L2 WH
/-- a def, called by names: gV puts what is named in its order -/
structure CalleeK (P : Program) (w : World) (K : Fg) (mg : Str → Option Value) (base : Heap) (k : Nat) (x : Str) (ps ks : List Str) (gV : List V → List V → List V) (sp : Sp) : Prop where
  ex : ∃ f fd g, mg x = some (.ref f) ∧ PySem.W.keepIn K (.ref f) = true ∧ KBn K fd ps 0 ks g gV ∧ FnX P w K mg base k f fd ps sp
structure MakerK (P : Program) (w : World) (K : Fg) (mg : Str → Option Value) (base : Heap) (k : Nat) (x : Str) (C : Addr) (ps ks : List Str) (gV : List V → List V → List V) (sp : Sp) : Prop where
  ex : ∃ f fd g, mg x = some (.ref C) ∧ Mk K C f ∧ KBn K fd ps 1 ks g gV ∧ FnX P w K mg base k f fd ps sp
structure MthdK (P : Program) (w : World) (K : Fg) (mg : Str → Option Value) (base : Heap) (k : Nat) (C : Addr) (m : Str) (ps ks : List Str) (gV : List V → List V → List V) (sp : Sp) : Prop where
  ex : ∃ f fd g, Cls K C ∧ Meth K C m f ∧ KBn K fd ps 1 ks g gV ∧ FnX P w K mg base k f fd ps sp
section
variable {X : Cx} {k : Nat} {C : Addr} {ps ks : List Str} {sp : Sp} {E : XK} {x m : Str} {p pos apos : Pos} {o : Expr} {kws : List Keyword} {ta : TE} {tk : TA} {gV : List V → List V → List V} {pl : Sem Bool}
theorem pe_calleeK (c : CalleeK X.prog X.w X.K X.mg X.base k x ps ks gV sp) (hr : Room k X.A) (hx : Passes (L2.CX X.prog X.w) X E) (hkw : PK X kws tk) (hg : Gl X x := by rfl)
    (h1 : (backToKw pos (keywordEach kws X.env)).all (·.1.isSome) = true := by rfl) (h2 : (backToKw pos (keywordEach kws X.env)).filterMap (·.1) = ks := by rfl) (h3 : (x == ("__debug__" : Str)) = false := by decide)
    (h4 : ((backTo pos (starEach [] X.env)).any (·.1) || (backToKw pos (keywordEach kws X.env)).any (·.1.isNone)) = false := by rfl) : PE X (.Call (.Name x p) [] kws pos) (tCallN 0 ks.length sp gV E tNil tk) := by
  obtain ⟨f, fd, g, e1, e2, e3, F⟩ := c.ex
  exact pe_callK0 F hr e1 e2 e3 hx hkw hg h1 h2 h3 h4
theorem pe_makerK (c : MakerK X.prog X.w X.K X.mg X.base k x C ps ks gV sp) (hr : Room (k + 1) X.A) (hx : Passes (L2.CX X.prog X.w) X E) (hkw : PK X kws tk) (hg : Gl X x := by rfl)
    (h1 : (backToKw pos (keywordEach kws X.env)).all (·.1.isSome) = true := by rfl) (h2 : (backToKw pos (keywordEach kws X.env)).filterMap (·.1) = ks := by rfl) (h3 : (x == ("__debug__" : Str)) = false := by decide)
    (h4 : ((backTo pos (starEach [] X.env)).any (·.1) || (backToKw pos (keywordEach kws X.env)).any (·.1.isNone)) = false := by rfl) : PE X (.Call (.Name x p) [] kws pos) (tMakeK C 0 ks.length sp gV E tNil tk) := by
  obtain ⟨f, fd, g, e1, e2, e3, F⟩ := c.ex
  exact pe_makeK0 e2 F hr hg e1 e3 hx hkw h1 h2 h3 h4
theorem pe_mthdK (c : MthdK X.prog X.w X.K X.mg X.base k C m ps ks gV sp) (he : PE X o ta) (hr : Room k X.A) (hx : Passes (L2.CX X.prog X.w) X E) (hkw : PK X kws tk)
    (h1 : (backToKw pos (keywordEach kws X.env)).all (·.1.isSome) = true := by rfl) (h2 : (backToKw pos (keywordEach kws X.env)).filterMap (·.1) = ks := by rfl)
    (h4 : ((backTo pos (starEach [] X.env)).any (·.1) || (backToKw pos (keywordEach kws X.env)).any (·.1.isNone)) = false := by rfl)
    (h5 : eval (.Call (.Attribute o m apos) [] kws pos) X.env = (do let ov ← eval o X.env; standAt apos.atName; let (f, first) ← holding [ov] (getMethod ov m pl); callWith pos f first (backTo pos (starEach [] X.env)) (backToKw pos (keywordEach kws X.env))) := by rfl) :
    PE X (.Call (.Attribute o m apos) [] kws pos) (tMethK C m ks.length sp gV E ta tk) := by
  obtain ⟨f, fd, g, e1, e2, e3, F⟩ := c.ex
  exact pe_methK0 he e1 e2 F hr e3 hx hkw h1 h2 h4 h5
end
/-- names bind a def that has defaults, all from names and places -/
theorem kbnD {K : Fg} {x qual : Str} {params : Arguments} {body : List Stmt} {scope : Scope} {dvs : List V} {f : Addr} {fd : FuncData} {ps : List Str} (F : FunD K x qual params body scope dvs [] f fd) (n : Nat) (ks : List Str) (g : {α : Type} → List α → List α → List α) (hd : dvs ≠ [])
    (hrel : ∀ {vs zs : List V} {us ws : List Value}, Vals vs us → Vals zs ws → Vals (g vs zs) (g us ws))
    (h : ∀ (T : Addr) (kV doc pm : Value) (an : Option Addr) (cdv ct : Value) (us its ws : List Value), us.length = n → its.length = dvs.length → ws.length = ks.length →
      ∃ k, bindArgs (PySem.W.fnOf x qual params body scope (.ref T) kV doc pm an cdv ct) ⟨us, ks.zip ws⟩ = seqItems? (.ref T) >>= k ∧ k (some its.toArray) = pure (ps.zip (g us ws))) : KBn K fd ps n ks (fun us ws => g us ws) (fun vs zs => g vs zs) := by
  obtain ⟨oc, od, dV, kV, doc, pm, an, cdv, ct, osl, rfl, lk, hcd, hD, hK⟩ := F.ex
  rcases hD with ⟨e, _⟩ | ⟨_, T, o, its, m, rfl, lT, oT, rT⟩
  · exact absurd e hd
  · refine ⟨fun s us ws X l1 l2 => ?_, fun r1 r2 => hrel r1 r2⟩
    obtain ⟨k, e1, e2⟩ := h T kV doc pm an cdv ct us its ws l1 rT.length.symm l2
    refine BindsTo.of_looks fun M => ?_
    rw [e1]
    exact looks_items X lT oT (.of_pure e2)
end WB
set_option Elab.async false
set_option linter.all false
set_option maxRecDepth 100000
set_option maxHeartbeats 4000000
/-! Exceptions with a field: made, raised, caught by one of many handlers, some of them with a name -/
namespace WB
open PySem PySem.Spec PyProof.Rows L2 WH
abbrev Hand : Type := Value × Option Nat × (Addr → Value → Option Addr → TS)
/-- the suite's ends: its name is gone behind it -/
def endsM (j : Option Nat) (D : Ends) : Ends := match j with
  | none => D
  | some i => ⟨fun r G => D.nx (r.set i none) G, D.rt, fun r G => D.bk (r.set i none) G, fun r G => D.ct (r.set i none) G⟩
def slotM (j : Option Nat) (r : L2.St) (a : Addr) : L2.St := match j with
  | none => r
  | some i => r.set i (some (.ref a))
def wMix (K : Fg) (Wo : WX) (D : Ends) : List Hand → WX
  | [] => Wo
  | (c, j, t) :: more => fun k d r G => ∃ b, PySem.W.exmOne K k c = some b ∧ (b = true → ∀ a, G a = none → t a k d (endsM j D) (slotM j r a) G) ∧ (b = false → wMix K Wo D more k d r G)
inductive HandsOk (X : Cx) : List ExceptHandler → List Hand → Prop
  | nil : HandsOk X [] []
  | only {x : Str} {c : Value} {t : Addr → Value → Option Addr → TS} {b : Stmt} {bs : List Stmt} {p q : Pos} {hs : List ExceptHandler} {l : List Hand} (hc : Names X x c)
      (su : ∀ (a : Addr) (o : Obj) (k : Value) (d : Option Addr) (n : List (Addr × Obj)), Zc k d o → (∃ v, o.data = .fields v) → PSs (X.suite a ((a, o) :: n)) (b :: bs) (t a k d)) (more : HandsOk X hs l) :
      HandsOk X (.ExceptHandler (some (.Name x p)) none (b :: bs) q :: hs) ((c, none, t) :: l)
  | named {x n : Str} {i : Nat} {c : Value} {t : Addr → Value → Option Addr → TS} {b : Stmt} {bs : List Stmt} {p q : Pos} {hs : List ExceptHandler} {l : List Hand} (hi : X.N[i]? = some n) (hl : X.env.kindOf n = some .local) (hc : Names X x c)
      (su : ∀ (a : Addr) (o : Obj) (k : Value) (d : Option Addr) (n : List (Addr × Obj)), Zc k d o → (∃ v, o.data = .fields v) → PSs (X.suite a ((a, o) :: n)) (b :: bs) (t a k d)) (more : HandsOk X hs l) :
      HandsOk X (.ExceptHandler (some (.Name x p)) (some n) (b :: bs) q :: hs) ((c, some i, t) :: l)
section
variable {X : Cx} {body : List Stmt} {h0 : ExceptHandler} {hd : List ExceptHandler} {l : List Hand} {pos : Pos} {tb : WX → TS} {Wo : WX}
theorem ps_try_mix (hst : X.stack = X.env :: X.outer) (hfr : X.env.frame = some X.env.locals) (hN : X.N.Nodup) (tk : Takes X Wo)
    (hb : ∀ (W : WX) (n : List (Addr × Obj)) (xe : Value → Shared → Prop), Takes (X.tr n xe) W → PassesOwn (model X.prog X.w) X.A X.env xe → PSs (X.tr n xe) body (tb W))
    (hh : HandsOk X (h0 :: hd) l) : PS X (.Try body (h0 :: hd) [] [] pos) (fun D r G => tb (wMix X.K Wo D l) D r G) := by
  refine ⟨fun pins s r G D I h => ?_⟩
  have iok := I.ok
  have frame : X.A.frames = some (X.env :: X.outer) := by
    rw [iok.frames, hst]
  refine wpAny_Try_except (wpAny_mono ((hb (wMix X.K Wo D l) (X.pn ++ pins) (fun e s1 => wpAny (model X.prog X.w) X.A (noteFrame e X.env)
    (fun _ s2 => wpAny (model X.prog X.w) X.A (setFlight e none) (fun _ s3 => wpAny (model X.prog X.w) X.A (handleBy e X.env (h0 :: hd)) (SP X pins D) X.xe s3) X.xe s2) X.xe s1)
    (fun u s' z => ?_) PassesOwn.looking).run [] s r G D (I.toTry _) h) (fun fl s1 z => ?_) fun e s1 z => z)
  · obtain ⟨a, B, sI, pins', r', G', k, d, rfl, J0, nb, up, sky, na, os, ag, w⟩ := z
    have J : Inv X pins r' G' sI := J0.ofTry iok
    show wpAny (model X.prog X.w) X.A (noteFrame (.ref a) X.env) _ _ _
    refine Sky.land Zc.steady frame hfr (by rw [← hst]; exact sky) fun g3 f3 u3 => ?_
    have J3 : Inv X pins r' G' { s' with heap := g3 } := J.landed nb f3.1 (up.trans u3) os ag
    obtain ⟨o3, v3, e3, z3, d3⟩ := f3.there
    have away : a ∉ frs (X.env :: X.outer) := fun hm => by
      obtain ⟨_, o', e', nf⟩ := f3.2.2.1.mem hm
      rw [e3] at e'
      cases e'
      exact nf _ d3
    have nL : a ≠ X.env.locals := fun z => away (List.mem_filterMap.mpr ⟨X.env, List.mem_cons_self, by rw [hfr, z]⟩)
    have nF : a ∉ X.fs := fun hm => by
      obtain ⟨e, he, q⟩ := List.mem_filterMap.mp hm
      exact away (List.mem_filterMap.mpr ⟨e, List.mem_cons_of_mem _ he, q⟩)
    have S3 := J3.suite e3 d3 na nL nF
    have LT : PySem.W.Looks (model X.prog X.w) g3 (typeOf (.ref a)) k := fun A Q E s kp q => wpAny_typeOf_ref (kp _ _ e3) (by
      rw [z3.1]
      exact q)
    have test : ∀ {x : Str} {c : Value} {np : Pos} {Q E : Value → Shared → Prop}, Names X x c → Q c { s' with heap := g3 } → wpAny (model X.prog X.w) (X.A.mark (some (.ref a))) (eval (.Name x np) X.env) Q E { s' with heap := g3 } := fun hc q => by
      obtain ⟨hg, hdb, hm | ⟨hm, hv, hnn⟩⟩ := hc
      · exact ld_glob (X := X.suite a ((a, o3) :: (X.pn ++ pins))) S3 hg hm q hdb
      · exact ld_blt (X := X.suite a ((a, o3) :: (X.pn ++ pins))) S3 hg hm hv q hnn hdb
    have go : ∀ {hs : List ExceptHandler} {ls : List Hand}, HandsOk X hs ls → wMix X.K Wo D ls k d r' G' → wpAny (model X.prog X.w) X.A (handleBy (.ref a) X.env hs) (SP X pins D) X.xe { s' with heap := g3 } := by
      intro hs ls hk
      induction hk with
      | nil =>
        intro w
        obtain ⟨k1, k2, k3, oe, vs, T, oT, ts', he, hz, hd', h1, hr⟩ := id f3
        refine wpAny_handleBy_nil ?_
        unfold PySem.passOn
        refine wpAny_bind (wpAny_field he hd' h1 ?_)
        rw [if_neg (show ¬ (Value.ref T == .none) = true by simp)]
        have last : wpAny (model X.prog X.w) X.A (setFlight (.ref a) X.env.frame) (fun _ s4 => wpAny (model X.prog X.w) X.A (throw (.ref a) : Sem Flow) (SP X pins D) X.xe s4) X.xe { s' with heap := g3 } := by
          rw [hfr]
          exact HandSPX.setFlight_upZ f3 fun g4 hh4 u4 => wpAny_throw (tk _ _ ⟨a, B, sI, pins, r', G', k, d, rfl, J, nb, (up.trans u3).trans u4, .inr (.inr (by
            rw [hst]
            exact hh4)), na, os, ag, w⟩)
        first
          | exact wpAny_bind (wpAny_pure (wpAny_bind last))
          | exact wpAny_bind last
      | only hc su more ih =>
        intro w
        obtain ⟨b, eb, yes, no⟩ := w
        refine wpAny_handleBy_cons (codeAny_handlers_test (test hc ((PySem.W.exm_one (M := model X.prog X.w) J3.kIn LT eb).here ?_))) fun q => by cases q
        cases b with
        | false => exact ih (no rfl)
        | true =>
          refine codeAny_handlers_suite (HandSPX.lands_againZ f3 fun g4 f4 u4 => ?_)
          have J4 : Inv X pins r' G' { s' with heap := g4 } := J.landed nb f4.1 ((up.trans u3).trans u4) os ag
          obtain ⟨o4, v4, e4, z4, d4⟩ := f4.there
          refine wpAny_mono ((su a o4 k d (X.pn ++ pins) z4 ⟨_, d4⟩).run [] _ _ G' _ (J4.suite e4 d4 na nL nF) (yes rfl a na)) (fun fl s6 z => ?_) (fun _ _ z => False.elim z)
          cases fl with
          | next => exact z.elim fun r6 z => z.elim fun G6 z => ⟨_, _, z.1.unsuite iok, z.2⟩
          | brk => exact z.elim fun r6 z => z.elim fun G6 z => ⟨_, _, z.1.unsuite iok, z.2⟩
          | cont => exact z.elim fun r6 z => z.elim fun G6 z => ⟨_, _, z.1.unsuite iok, z.2⟩
          | ret u =>
            obtain ⟨v6, r6, G6, S6, rv, q6⟩ := z
            exact ⟨_, _, _, S6.unsuite iok, rv, q6⟩
      | @named x n i c t b0 bs p q hs2 l2 hi hl hc su more ih =>
        intro w
        obtain ⟨b, eb, yes, no⟩ := w
        refine wpAny_handleBy_cons (codeAny_handlers_test (test hc ((PySem.W.exm_one (M := model X.prog X.w) J3.kIn LT eb).here ?_))) fun q => by cases q
        cases b with
        | false => exact ih (no rfl)
        | true =>
          refine codeAny_handlers_suite_as (HandSPX.lands_againZ f3 fun g4 f4 u4 => ?_)
          have J4 : Inv X pins r' G' { s' with heap := g4 } := J.landed nb f4.1 ((up.trans u3).trans u4) os ag
          obtain ⟨o4, v4, e4, z4, d4⟩ := f4.there
          refine store_ok (X := X.suite a ((a, o4) :: (X.pn ++ pins))) (v := .ref a) (J4.suite e4 d4 na nL nF) hN hi (.inl hl) rfl (fun s5 S5 => ?_) (.inr hl)
          refine wpAny_mono ((su a o4 k d (X.pn ++ pins) z4 ⟨_, d4⟩).run [] s5 _ G' _ S5 (yes rfl a na)) (fun fl s6 z => ?_) (fun _ _ z => False.elim z)
          have gone : ∀ {r6 : L2.St} {G6 : Hp} {Q : Shared → Prop}, Inv (X.suite a ((a, o4) :: (X.pn ++ pins))) [] r6 G6 s6 → (∀ s7, Inv X pins (r6.set i none) G6 s7 → Q s7) →
              wpAny (model X.prog X.w) X.A (do bindName X.env n .none; unbindBehindTheSuite X.env n q) (fun _ s7 => Q s7) X.xe s6 := fun S6 hq => gone_ok (S6.unsuite iok) hN hi hl hq
          cases fl with
          | next =>
            obtain ⟨r6, G6, S6, q6⟩ := z
            exact gone S6 fun s7 J7 => ⟨_, _, J7, q6⟩
          | brk =>
            obtain ⟨r6, G6, S6, q6⟩ := z
            exact gone S6 fun s7 J7 => ⟨_, _, J7, q6⟩
          | cont =>
            obtain ⟨r6, G6, S6, q6⟩ := z
            exact gone S6 fun s7 J7 => ⟨_, _, J7, q6⟩
          | ret u =>
            obtain ⟨v6, r6, G6, S6, rv, q6⟩ := z
            exact gone S6 fun s7 J7 => ⟨_, _, _, J7, rv, q6⟩
    exact go hh w
  · cases fl with
    | next => exact z.elim fun r6 z => z.elim fun G6 z => wpAny_execs_nil ⟨_, _, z.1.ofTry iok, z.2⟩
    | brk => exact z.elim fun r6 z => z.elim fun G6 z => ⟨_, _, z.1.ofTry iok, z.2⟩
    | cont => exact z.elim fun r6 z => z.elim fun G6 z => ⟨_, _, z.1.ofTry iok, z.2⟩
    | ret u =>
      obtain ⟨v6, r6, G6, S6, rv, q6⟩ := z
      exact ⟨_, _, _, S6.ofTry iok, rv, q6⟩
end
/-! ### an own class with one field -/
def oexB (K : Fg) (C : Addr) : Bool := match K.lookup C with
  | some ⟨.type "type", _, .cls cd, sl⟩ => cd.hasDict && !cd.hasDel && (match cd.mro with
    | .ref C' :: bm => decide (C' = C) && PySem.HandSPX.refsVE bm
    | _ => false) && (match sl.toList with
    | [_, _, _, _, some (.builtin n), _] => n == "ValueError.__new__"
    | _ => false)
  | _ => false
theorem oexB_ok {K : Fg} {C : Addr} (h : oexB K C = true) : ∃ nm q N bs bm sn sub ab col dd k0 k1 k2 k3 k5, K.lookup C = some (excClassObj nm q C N bs bm true sn sub ab col dd k0 k1 k2 k3 k5 "ValueError.__new__") ∧ PySem.HandSPX.refsVE bm = true := by
  unfold oexB at h
  split at h
  · rename_i dd cd sl ho
    obtain ⟨nm, bs, mro, ns, qn, hd, sn, sb, ab, col, del⟩ := cd
    simp only [Bool.and_eq_true, Bool.not_eq_true'] at h
    obtain ⟨⟨⟨h1, h2⟩, h3⟩, h4⟩ := h
    subst h1 h2
    split at h3
    · rename_i C' bm
      obtain ⟨e, r⟩ := Bool.and_eq_true_iff.mp h3
      cases of_decide_eq_true e
      split at h4
      · rename_i k0 k1 k2 k3 n k5 hs
        cases beq_iff_eq.mp h4
        obtain ⟨l⟩ := sl
        cases (show l = [k0, k1, k2, k3, some (.builtin "ValueError.__new__"), k5] from hs)
        exact ⟨nm, qn, ns, bs, bm, sn, sb, ab, col, dd, k0, k1, k2, k3, k5, ho, r⟩
      · cases h4
    · cases h3
  · cases h
/-- what its __init__ does: self.f = v, alone -/
def spField (C : Addr) (f : Str) : Sp := fun vs H Q _ => ∃ a v, vs = [.ref a, v] ∧ H a = some (exo a C none) ∧ ∀ dx, H dx = none → dx ≠ a → Q .non (upd (upd H dx (exd dx [(f, v)])) a (exo a C (some dx)))
structure ExcV (P : Program) (w : World) (K : Fg) (mg : Str → Option Value) (base : Heap) (x f : Str) (C : Addr) : Prop where
  g : mg x = some (.ref C)
  T : OexC K C
  ex : ∃ i fd, PySem.W.findIn K (.ref C) "__init__" = some (some (.ref i)) ∧ PySem.W.typeIn K (.ref i) = some (.type "function") ∧ Binds K fd ["self", f] [] ∧ FnX P w K mg base 1 i fd ["self", f] (spField C f)
  xf : XfC K C
  no : PySem.W.findIn K (.ref C) f = some none
theorem ps_raiseV {X : Cx} {W : WX} {x f : Str} {C : Addr} {p pos pos' : Pos} {a : Expr} {ta : TE} (v : ExcV X.prog X.w X.K X.mg X.base x f C) (tk : Takes X W) (ha : PE X a ta) (hr : Room 2 X.A) (hc : X.calm = true := by rfl) (hg : Gl X x := by rfl) (hdb : (x == ("__debug__" : Str)) = false := by decide)
    (he : starEach [a] X.env = (false, eval a X.env) :: starEach [] X.env := by rfl) (hpl : (backTo pos (starEach [] X.env)).any (·.1) = false := by rfl) :
    PS X (.Raise (some (.Call (.Name x p) [a] [] pos)) none pos') (fun _ σ H => tMkO C (spField C f) [] (tCons ta tNil) σ H fun k d H' => W k d σ H') := by
  obtain ⟨i, fd, h1, h2, h3, h4⟩ := v.ex
  exact ps_raise hc tk (pmk_oex v.T h1 h2 h4 hr h3 .nil passL hg v.g (pa_cons ha pa_nil he) hdb he hpl)
theorem raiseV {H : Hp} {v : V} {C : Addr} {f : Str} {W : XK} (k : ∀ d H2, H d = none → Ex H H2 → H2 d = some (.xd [(f, v)]) → W (.ref C) (some d) H2) : [v].length ≤ 1000 ∧ ∀ a, H a = none → spField C f (.ref a :: ([v] ++ [])) (upd H a (exo a C none))
    (fun r H2 => r = .non ∧ ∃ (d : Addr) (fs : List (Str × V)), H2 a = some (exo a C (some d)) ∧ H2 d = some (exd d fs) ∧ H d = none ∧ W (.ref C) (some d) (upd (L2.del H2 a) d (.xd fs))) (fun _ _ _ => False) := by
  refine ⟨by simp, fun a ha => ⟨a, v, rfl, upd_same, fun dx hdx ne => ?_⟩⟩
  have hd : H dx = none := by rwa [upd_ne ne] at hdx
  refine ⟨rfl, dx, _, upd_same, by rw [upd_ne ne]; exact upd_same, hd, k dx _ hd (fun b o e => ?_) upd_same⟩
  have n1 : b ≠ dx := ne_of_none e hd
  have n2 : b ≠ a := ne_of_none e ha
  rw [upd_ne n1, L2.del_ne n2, upd_ne n2, upd_ne n1, upd_ne n2]
  exact e
theorem TyX_grow {K : Fg} {H H' : Hp} {x : V} {t : Value} (h : TyX K H x t) (e : Ex H H') : TyX K H' x t := by
  have at_ : ∀ {a : Addr} {u : HO}, H a = some u → H' a = some u := fun h => e _ _ h
  cases h with
  | base b =>
    refine .base ?_
    cases b with
    | non => exact .non
    | bl y => exact .bl y
    | int i => exact .int i
    | str y => exact .str y
    | flt y => exact .flt y
    | lst e => exact .lst (at_ e)
    | frz e => exact .frz (at_ e)
    | tup e => exact .tup (at_ e)
    | dK e => exact .dK (at_ e)
    | dT e => exact .dT (at_ e)
    | ins e c1 c2 c3 c4 c5 => exact .ins (at_ e) c1 c2 c3 c4 c5
  | byt y => exact .byt y
  | set e => exact .set (at_ e)
  | kList e c => exact .kList e c
  | kTuple e c => exact .kTuple e c
  | kDict e c => exact .kDict e c
  | fTuple e => exact .fTuple (at_ e)
  | fDict e => exact .fDict (at_ e)
theorem TyN_grow {K : Fg} {C : Addr} {H H' : Hp} {x : V} {a b : Bool} (h : TyN K C H x a b) (e : Ex H H') : TyN K C H' x a b := by
  obtain ⟨t, bi, tx, h1, h3, h4⟩ := h.ex
  exact ⟨t, bi, TyX_grow tx e, h1, h3, h4⟩
/-- a call that may raise -/
theorem pe_calleeE {X : Cx} {k : Nat} {x : Str} {ps : List Str} {sp : Sp} {E : XK} {p pos : Pos} {e : Expr} {es : List Expr} {t : TA} (c : Callee X.prog X.w X.K X.mg X.base k x ps sp) (hr : Room k X.A) (hx : Passes (L2.CX X.prog X.w) X E) (ha : PA X (e :: es) t) (hg : Gl X x := by rfl)
    (hdb : (x == ("__debug__" : Str)) = false := by decide) (he : starEach (e :: es) X.env = (false, eval e X.env) :: starEach es X.env := by rfl) (hpl : (backTo pos (starEach es X.env)).any (·.1) = false := by rfl) : PE X (.Call (.Name x p) (e :: es) [] pos) (tCall sp [] E t) := by
  obtain ⟨f, fd, h1, h2, h3, h4⟩ := c.ex
  exact pe_call h4 hr hg h1 h2 h3 .nil hx ha hdb he hpl
/-- what a call lets out, with as many slots as there are names -/
theorem passes_len {X : Cx} {W : WX} {E : XK} (tk : Takes X W) (hW : ∀ k d (r : L2.St) G, r.length = X.N.length → E k d G → W k d r G) : Passes (L2.CX X.prog X.w) X E := fun _ r _ _ e t I c => tk e t (XE.of_call I (fun k d G h => hW k d r G I.len h) c)
theorem slot_at {r : L2.St} {a : Addr} {i n : Nat} (h : r.length = n) (l : i < n) : (slotM (some i) r a)[i]? = some (some (.ref a)) := by
  show (r.set i _)[i]? = _
  rw [List.getElem?_set_self (by omega)]
/-- cls(..): the class stands in a local name -/
def tMakeL (i : Nat) (C : Addr) (sp : Sp) (dvs : List V) (E : XK) (t : TA) : TE := fun r G Q => r[i]? = some (some (.ref C)) ∧ tMake C sp dvs E t r G Q
theorem pe_makeL {X : Cx} {k i : Nat} {x y : Str} {C : Addr} {ps : List Str} {dvs : List V} {sp : Sp} {E : XK} {p pos : Pos} {e : Expr} {es : List Expr} {t : TA} (c : Maker X.prog X.w X.K X.mg X.base k y C ps dvs sp) (hr : Room (k + 1) X.A) (hN : X.N[i]? = some x) (hv : Vis X.env.scope x) (hx : Passes (L2.CX X.prog X.w) X E) (ha : PA X (e :: es) t)
    (hd1 : (x == ("__debug__" : Str)) = false := by decide) (hd2 : (x == ("__classdict__" : Str)) = false := by decide) (he : starEach (e :: es) X.env = (false, eval e X.env) :: starEach es X.env := by rfl) (hpl : (backTo pos (starEach es X.env)).any (·.1) = false := by rfl) :
    PE X (.Call (.Name x p) (e :: es) [] pos) (tMakeL i C sp dvs E t) := by
  obtain ⟨f, fd, ds, _, M, hb, hdv, F⟩ := c.ex
  refine ⟨fun pins s r G Q I h => wpAny_Call_Name_kw (thn ((pe_var (pos := p) hN hv hd1 hd2).run pins s r G (fun v G1 => v = .ref C ∧ G1 = G) I ⟨.ref C, h.1, rfl, rfl⟩) fun u s1 z => ?_)⟩
  obtain ⟨v, G1, I1, r1, ev, eg⟩ := z
  subst ev eg
  cases (show u = Value.ref C from r1)
  exact PySem.W.callWith_K (h₀ := X.base) I.ok.mod.kin M.kp (thn (ha.run pos pins s1 r _ _ I1 h.2) fun us s2 ⟨vs, G2, I2, rv, q⟩ => ⟨I2.kIn, run_make M F hr hb hdv hx I2 rv q⟩) he hpl
end WB
set_option Elab.async false
set_option linter.all false
set_option maxRecDepth 100000
set_option maxHeartbeats 4000000
/-! != and == of two tuples whose items are equal, some by an own == or the same object -/
namespace WNe
open PySem PySem.Spec PyProof.Rows L2
section
variable {prog : Program} {w : World} {A : Around} {R : Result → Shared → Prop}
theorem tup_body (l b : Addr) (xs ys : Array Value) (n m : Nat) (dx dy : Option Addr) (sx sy : Array (Option Value)) (same : xs.size = ys.size) (J : Nat → Shared → Prop)
    (one : ∀ i (h1 : i < xs.size) (h2 : i < ys.size) s, J i s → wpAny (model prog w) A.in1 (eqBool xs[i] ys[i]) (fun r t => r = true ∧ J (i + 1) t) (fun e t => R (.error e) t) s)
    (last : ∀ s, J xs.size s → R (.ok (.ret (.bool false))) s) {s : Shared} (gx : s.heap.get? l = some ⟨.type "tuple", dx, .seq xs n, sx⟩) (gy : s.heap.get? b = some ⟨.type "tuple", dy, .seq ys m, sy⟩) (h : J 0 s) :
    wpAny (model prog w) A.in1 (Builtin.«tuple.__ne__» ⟨[.ref l, .ref b], []⟩) (GQ.FinOf prog w A R) (fun e t => R (.error e) t) s := by
  have isTup := AutoSeq1.sub_tuple_tuple
  have long : (xs.toList.zip ys.toList).length = xs.size := by
    simp [same]
  have start := h
  obtain ⟨hp, g, d, tk, os⟩ := s
  wp_walk using wpAny_loadPart' gx, wpAny_loadPart' gy, wpAny_forIn_list _ (fun rest b t => b.1 = none ∧ ∃ i, rest = (xs.toList.zip ys.toList).drop i ∧ i ≤ xs.size ∧ J i t) _
  case turn =>
    rintro ⟨p, q⟩ rest acc t ⟨none_, i, cut, le, hJ⟩
    have lt : i < (xs.toList.zip ys.toList).length := by
      by_cases h' : i < (xs.toList.zip ys.toList).length
      · exact h'
      · rw [List.drop_of_length_le (by omega)] at cut
        cases cut
    have lx : i < xs.size := by
      rw [← long]
      exact lt
    have ly : i < ys.size := by
      rw [← same]
      exact lx
    rw [List.drop_eq_getElem_cons lt] at cut
    injection cut with pair more
    obtain rfl : p = xs[i] := by
      have := congrArg Prod.fst pair
      simpa using this
    obtain rfl : q = ys[i] := by
      have := congrArg Prod.snd pair
      simpa using this
    refine wpAny_bind (wpAny_mono (one i lx ly t hJ) (fun r t2 z => ?_) fun _ _ z => z)
    obtain ⟨rfl, z⟩ := z
    wp_walk
    exact ⟨rfl, i + 1, more, lx, z⟩
  case fin =>
    rintro ⟨b1, b2⟩ t ⟨none_, i, cut, le, hJ⟩
    simp only at none_
    subst none_
    have ge : xs.size ≤ i := by
      by_cases h' : i < (xs.toList.zip ys.toList).length
      · rw [List.drop_eq_getElem_cons h'] at cut
        cases cut
      · omega
    obtain rfl : i = xs.size := by omega
    have done := last t hJ
    wp_walk
    simpa [Builtin.Tuple.tupleCompareSizes, same] using done
  case h => exact ⟨rfl, 0, rfl, Nat.zero_le _, start⟩
end
theorem tup_rich {prog : Program} {w : World} {A : Around} {E : Value → Shared → Prop} {s : Shared} {l b : Addr} {xs ys : Array Value} {Q : Value → Shared → Prop} (same : xs.size = ys.size) (hu : A.units < cLine) (J : Nat → Shared → Prop) (tx : s.heap.IsTuple l xs) (ty : s.heap.IsTuple b ys)
    (one : ∀ i (h1 : i < xs.size) (h2 : i < ys.size) s, J i s → wpAny (model prog w) A.in1 (eqBool xs[i] ys[i]) (fun r t => r = true ∧ J (i + 1) t) E s) (last : ∀ s, J xs.size s → Q (.bool false) s) (h : J 0 s) : wpAny (model prog w) A (richCompare .NotEq (.ref l) (.ref b)) Q E s := by
  obtain ⟨⟨c1, d1, p1, s1⟩, g1, e1, n, f1⟩ := id tx
  obtain ⟨⟨c2, d2, p2, s2⟩, g2, e2, m, f2⟩ := id ty
  simp only at e1 f1 e2 f2
  subst e1 f1 e2 f2
  refine wpAny_richCompare_same_room (op := .NotEq) ⟨_, g1, rfl⟩ ⟨_, g2, rfl⟩ F.slot_tuple_ne (GQ.call_here F.slot_tuple_ne ⟨_, g1, rfl⟩ F.entry_tuple_ne (F.args_tuple_ne_2 _ _) ?_) hu
  exact tup_body (R := wants (fun v t => v ≠ .notImplemented ∧ Q v t) E) l b xs ys n m d1 d2 s1 s2 same J one (fun t q => ⟨(fun z => nomatch z), last t q⟩) g1 g2 h
end WNe
namespace WB
open PySem PySem.Spec PyProof.Rows L2 WH
/-- != of tuples with equal items: False -/
def rNeT (K : Fg) (D : Eqv) : R2 := fun x y H Q => DTup K D x y H ∧ ∀ H', L2.Ext H H' → Q (.bl false) H'
theorem op_neT {X : Cx} {n : Nat} {D : Eqv} (hD : Mon D) (h : EqG X n D) (hr : Room (n + 1) X.A) : OpR X (compareOp .NotEq) (rNeT X.K D) := by
  intro pins s σ H x y v u Q I rx ry ⟨d, q⟩
  obtain ⟨a, b, xs, ys, ex, ey, ha, hb, p⟩ := d
  subst ex ey
  cases (show v = Value.ref a from rx)
  cases (show u = Value.ref b from ry)
  show wpAny _ _ (richCompare .NotEq (.ref a) (.ref b)) _ _ _
  obtain ⟨us, r1, g1, _⟩ := I.tuple ha
  obtain ⟨ws, r2, g2, _⟩ := I.tuple hb
  refine WNe.tup_rich (xs := us.toArray) (ys := ws.toArray) (by rw [List.size_toArray, List.size_toArray, ← r1.length, ← r2.length]; exact p.1) hr.units0 (fun _ t => LoopI X pins σ H t) g1 g2 (fun i h1 h2 t z => turnG hD h ⟨hr, rfl⟩ p r1 r2 i h1 h2 t z) (fun t z => ?_) ⟨H, I, fun _ _ h => h⟩
  obtain ⟨H1, I1, e1⟩ := z
  exact ⟨.bl false, H1, I1, rfl, q H1 e1⟩
/-- tuples of flat and the same things -/
theorem op_neThingsT {X : Cx} (hr : Room 1 X.A) : OpR X (compareOp .NotEq) (rNeT X.K DThing) := op_neT (mon_flat.or mon_self) (eqG_flat.or eqG_self) hr
theorem op_eqThingsT {X : Cx} (hr : Room 1 X.A) : OpR X (compareOp .Eq) (rEqG (DTup X.K DThing)) := op_eqG (rcG_tup (mon_flat.or mon_self) (eqG_flat.or eqG_self)) hr
end WB
set_option Elab.async false
set_option linter.all false
set_option maxRecDepth 100000
set_option maxHeartbeats 4000000
/-! Texts of whole numbers and of quotients, as lists of signs -/
namespace WT
open PySem PySem.Spec PyProof.Rows L2
abbrev dv : List Nat → Nat := NumText.digitsVal
theorem dv_snoc (cs : List Nat) (c : Nat) : dv (cs ++ [c]) = dv cs * 10 + (c - 48) := by
  show NumText.digitsVal _ = _
  unfold NumText.digitsVal
  rw [List.foldl_append]
  rfl
/-- digits without a needless 0 ahead -/
def Canon (cs : List Nat) : Prop := NumText.AllDigits cs ∧ cs ≠ [] ∧ (cs.head? = some 48 → cs = [48])
theorem dv_pos : ∀ (n : Nat) (cs : List Nat), cs.length = n → Canon cs → cs ≠ [48] → 0 < dv cs
  | 0, cs, h, c, _ => absurd (List.eq_nil_of_length_eq_zero h) c.2.1
  | n + 1, cs, h, c, hz => by
    obtain ⟨hd, hne, h0⟩ := c
    rcases List.eq_nil_or_concat cs with e | ⟨r, d, e⟩
    · exact absurd e hne
    · subst e
      rw [List.concat_eq_append] at *
      rw [dv_snoc]
      have dd := hd d (List.mem_append_right _ (List.mem_singleton.mpr rfl))
      by_cases hr : r = []
      · subst hr
        have : d ≠ 48 := fun z => hz (by rw [z]; rfl)
        omega
      · have hh : (r ++ [d]).head? = r.head? := by
          cases r with
          | nil => exact absurd rfl hr
          | cons a b => rfl
        have n48 : r.head? ≠ some 48 := fun z => by
          have := h0 (by rw [hh]; exact z)
          cases r with
          | nil => exact hr rfl
          | cons a b =>
            have := congrArg List.length this
            simp at this
        have cr : Canon r := ⟨fun x hx => hd x (List.mem_append_left _ hx), hr, fun z => absurd z n48⟩
        have := dv_pos n r (by rw [List.length_append] at h; simpa using h) cr fun z => n48 (by rw [z]; rfl)
        omega
theorem num_canon : ∀ (n : Nat) (cs : List Nat), cs.length = n → Canon cs → TL.numL (dv cs) = cs
  | 0, cs, h, c => absurd (List.eq_nil_of_length_eq_zero h) c.2.1
  | n + 1, cs, h, c => by
    obtain ⟨hd, hne, h0⟩ := c
    rcases List.eq_nil_or_concat cs with e | ⟨r, d, e⟩
    · exact absurd e hne
    · subst e
      rw [List.concat_eq_append] at *
      have dd := hd d (List.mem_append_right _ (List.mem_singleton.mpr rfl))
      rw [dv_snoc]
      by_cases hr : r = []
      · subst hr
        show TL.numL (0 * 10 + (d - 48)) = [d]
        rw [TL.numL_lt (by omega)]
        congr 1
        omega
      · have hh : (r ++ [d]).head? = r.head? := by
          cases r with
          | nil => exact absurd rfl hr
          | cons a b => rfl
        have n48 : r.head? ≠ some 48 := fun z => by
          have := h0 (by rw [hh]; exact z)
          cases r with
          | nil => exact hr rfl
          | cons a b =>
            have := congrArg List.length this
            simp at this
        have cr : Canon r := ⟨fun x hx => hd x (List.mem_append_left _ hx), hr, fun z => absurd z n48⟩
        have p := dv_pos _ r rfl cr fun z => n48 (by rw [z]; rfl)
        rw [TL.numL_step (by omega), show (dv r * 10 + (d - 48)) / 10 = dv r by omega, show (dv r * 10 + (d - 48)) % 10 = d - 48 by omega, num_canon n r (by rw [List.length_append] at h; simpa using h) cr]
        congr 2
        omega
theorem canon_num (n : Nat) : Canon (TL.numL n) := by
  refine ⟨TL.numL_digits n, TL.numL_ne n, ?_⟩
  induction n using Nat.strongRecOn with
  | _ n ih =>
    by_cases h : n < 10
    · rw [TL.numL_lt h]
      intro e
      have e2 : 48 + n = 48 := Option.some.inj e
      rw [e2]
    · rw [TL.numL_step (by omega)]
      intro e
      have hh : (TL.numL (n / 10) ++ [48 + n % 10]).head? = (TL.numL (n / 10)).head? := by
        have := TL.numL_ne (n / 10)
        revert this
        cases TL.numL (n / 10) with
        | nil => exact fun z => absurd rfl z
        | cons a b => exact fun _ => rfl
      rw [hh] at e
      have z := ih (n / 10) (by omega) e
      have v := TL.numL_val (n / 10)
      rw [z] at v
      have : n / 10 = 0 := v.symm
      omega
/-- the signs of a whole number -/
def intL (i : Int) : List Nat := if i < 0 then 45 :: TL.numL i.natAbs else TL.numL i.natAbs
theorem canon_dv {cs : List Nat} (h : Canon cs) : TL.numL (dv cs) = cs := num_canon _ cs rfl h
theorem head_dig {cs : List Nat} (h : Canon cs) : cs.head? ≠ some 45 := fun e => by
  cases cs with
  | nil => cases e
  | cons a b =>
    cases (show a = 45 from Option.some.inj e)
    have := h.1 45 (List.mem_cons_self ..)
    omega
/-- the text is a whole number's: cs = intL i -/
theorem intL_iff (cs : List Nat) (i : Int) : cs = intL i ↔ (cs.head? = some 45 ∧ Canon cs.tail ∧ cs.tail ≠ [48] ∧ i = -((dv cs.tail : Nat) : Int)) ∨ (Canon cs ∧ i = ((dv cs : Nat) : Int)) := by
  constructor
  · intro h
    subst h
    unfold intL
    by_cases hi : i < 0
    · rw [if_pos hi]
      refine .inl ⟨rfl, canon_num _, fun z => ?_, ?_⟩
      · have v := TL.numL_val i.natAbs
        rw [show TL.numL i.natAbs = [48] from z] at v
        have : i.natAbs = 0 := v.symm
        omega
      · show i = -((NumText.digitsVal (TL.numL i.natAbs) : Nat) : Int)
        rw [TL.numL_val]
        omega
    · rw [if_neg hi]
      refine .inr ⟨canon_num _, ?_⟩
      show i = ((NumText.digitsVal (TL.numL i.natAbs) : Nat) : Int)
      rw [TL.numL_val]
      omega
  · rintro (⟨hh, c, hz, rfl⟩ | ⟨c, rfl⟩)
    · have p := dv_pos _ _ rfl c hz
      unfold intL
      rw [if_pos (by omega), Int.natAbs_neg, Int.natAbs_natCast, canon_dv c]
      cases cs with
      | nil => cases hh
      | cons a b =>
        cases (show a = 45 from Option.some.inj hh)
        rfl
    · unfold intL
      rw [if_neg (by omega), Int.natAbs_natCast, canon_dv c]
theorem intL_inj {i j : Int} (h : intL i = intL j) : i = j := by
  rcases (intL_iff (intL i) i).mp rfl with ⟨a, b, c, d⟩ | ⟨a, b⟩ <;> rcases (intL_iff (intL i) j).mp h with ⟨a', b', c', d'⟩ | ⟨a', b'⟩
  · rw [d, d']
  · exact absurd a (head_dig a')
  · exact absurd a' (head_dig a)
  · rw [b, b']
/-- the signs of str(i) -/
theorem tl_int (i : Int) : TL.tl (Str.ofString (toString i)) = intL i := by
  unfold intL
  by_cases h : i < 0
  · rw [if_pos h]
    rw [PyProof.Rows.toString_neg h]
    have t := TL.tl_num i.natAbs
    rw [show ((i.natAbs : Nat) : Int) = 0 - i by omega] at t
    rw [← t]
    show (Str.ofString ("-" ++ toString (0 - i))).cps.toList = 45 :: (Str.ofString (toString (0 - i))).cps.toList
    rw [signs_ofString, signs_ofString, String.toList_append, List.map_append]
    rfl
  · rw [if_neg h]
    have t := TL.tl_num i.natAbs
    rw [show ((i.natAbs : Nat) : Int) = i by omega] at t
    exact t
/-! ### a stroke between -/
theorem pre1 (x c : Nat) (r : List Nat) : TL.pre [x] (c :: r) = decide (c = x) := by
  unfold TL.pre
  by_cases h : c = x
  · subst h
    simp
  · rw [decide_eq_false h]
    simp [h, Ne.symm h]
theorem par_free {x : Nat} : ∀ (cs acc : List Nat), x ∉ cs → TL.par [x] acc cs = none
  | [], _, _ => rfl
  | c :: r, acc, h => by
    have hc : c ≠ x := fun z => h (by rw [z]; exact List.mem_cons_self ..)
    show (if TL.pre [x] (c :: r) = true then _ else TL.par [x] (acc ++ [c]) r) = none
    rw [pre1, decide_eq_false hc, if_neg (by decide)]
    exact par_free r _ fun z => h (List.mem_cons_of_mem _ z)
theorem par_at {x : Nat} : ∀ (a acc b : List Nat), x ∉ a → TL.par [x] acc (a ++ x :: b) = some (acc ++ a, b)
  | [], acc, b, _ => by
    show (if TL.pre [x] (x :: b) = true then some (acc, (x :: b).drop 1) else _) = _
    rw [pre1, decide_eq_true rfl, if_pos rfl, List.append_nil]
    rfl
  | c :: r, acc, b, h => by
    have hc : c ≠ x := fun z => h (by rw [z]; exact List.mem_cons_self ..)
    show (if TL.pre [x] (c :: (r ++ x :: b)) = true then _ else TL.par [x] (acc ++ [c]) (r ++ x :: b)) = _
    rw [pre1, decide_eq_false hc, if_neg (by decide), par_at r _ b fun z => h (List.mem_cons_of_mem _ z), List.append_assoc]
    rfl
theorem spl_free {x : Nat} : ∀ (cs acc : List Nat), x ∉ cs → TL.spl [x] 0 acc cs = [acc ++ cs]
  | [], acc, _ => by rw [TL.spl_nil, List.append_nil]
  | c :: r, acc, h => by
    have hc : c ≠ x := fun z => h (by rw [z]; exact List.mem_cons_self ..)
    rw [TL.spl_miss (by rw [pre1, decide_eq_false hc]), spl_free r _ fun z => h (List.mem_cons_of_mem _ z), List.append_assoc]
    rfl
theorem spl_at {x : Nat} : ∀ (a acc b : List Nat), x ∉ a → TL.spl [x] 0 acc (a ++ x :: b) = (acc ++ a) :: TL.spl [x] 0 [] b
  | [], acc, b, _ => by
    show TL.spl [x] 0 acc (x :: b) = _
    rw [TL.spl_hit (by rw [pre1, decide_eq_true rfl]), List.append_nil]
    rfl
  | c :: r, acc, b, h => by
    have hc : c ≠ x := fun z => h (by rw [z]; exact List.mem_cons_self ..)
    show TL.spl [x] 0 acc (c :: (r ++ x :: b)) = _
    rw [TL.spl_miss (by rw [pre1, decide_eq_false hc]), spl_at r _ b fun z => h (List.mem_cons_of_mem _ z), List.append_assoc]
    rfl
/-- a list with an x in it: what stands before the first one -/
theorem first_at {x : Nat} : ∀ cs : List Nat, x ∈ cs → ∃ a b, cs = a ++ x :: b ∧ x ∉ a
  | c :: r, h => by
    by_cases e : c = x
    · exact ⟨[], r, by rw [e]; rfl, by simp⟩
    · rcases List.mem_cons.mp h with h | h
      · exact absurd h.symm e
      · obtain ⟨a, b, e1, e2⟩ := first_at r h
        refine ⟨c :: a, b, by rw [e1]; rfl, fun z => ?_⟩
        rcases List.mem_cons.mp z with z | z
        · exact e z.symm
        · exact e2 z
/-- the signs of a quotient -/
def ratL (q : Rat) : List Nat := intL q.num ++ if q.den = 1 then [] else 47 :: TL.numL q.den
theorem intL_free (i : Int) : 47 ∉ intL i := by
  unfold intL
  split
  · intro h
    rcases List.mem_cons.mp h with h | h
    · cases h
    · exact TL.numL_free (by decide) h
  · exact TL.numL_free (by decide)
/-- what a law reads: one whole number, or two with a stroke, in lowest terms -/
theorem ratL_one {cs : List Nat} (h : 47 ∉ cs) (q : Rat) : cs = ratL q ↔ ∃ i : Int, cs = intL i ∧ q = (i : Rat) := by
  constructor
  · intro e
    unfold ratL at e
    by_cases d : q.den = 1
    · rw [if_pos d, List.append_nil] at e
      exact ⟨q.num, e, Rat.ext (by rw [Rat.num_intCast]) (by rw [Rat.den_intCast]; exact d)⟩
    · rw [if_neg d] at e
      exact absurd (by rw [e]; exact List.mem_append_right _ (List.mem_cons_self ..)) h
  · rintro ⟨i, e, rfl⟩
    unfold ratL
    rw [Rat.den_intCast, if_pos rfl, Rat.num_intCast, List.append_nil]
    exact e
theorem ratL_two {a b : List Nat} (h : 47 ∉ a) (q : Rat) : a ++ 47 :: b = ratL q ↔ a = intL q.num ∧ b = TL.numL q.den ∧ q.den ≠ 1 := by
  constructor
  · intro e
    unfold ratL at e
    by_cases d : q.den = 1
    · rw [if_pos d, List.append_nil] at e
      exact absurd (by rw [← e]; exact List.mem_append_right _ (List.mem_cons_self ..)) (intL_free q.num)
    · rw [if_neg d] at e
      have p1 := par_at a [] b h
      rw [e, par_at (intL q.num) [] _ (intL_free _)] at p1
      have p2 := Option.some.inj p1
      exact ⟨(Prod.mk.inj p2).1.symm, (Prod.mk.inj p2).2.symm, d⟩
  · rintro ⟨rfl, rfl, d⟩
    unfold ratL
    rw [if_neg d]
/-! ### without a minus sign ahead; its number -/
def bare (a : List Nat) : List Nat := if a.head? = some 45 then a.tail else a
theorem dv_lt : ∀ (n : Nat) (cs : List Nat), cs.length = n → NumText.AllDigits cs → dv cs < 10 ^ n
  | 0, cs, h, _ => by
    rw [List.eq_nil_of_length_eq_zero h]
    decide
  | n + 1, cs, h, d => by
    rcases List.eq_nil_or_concat cs with e | ⟨r, c, e⟩
    · subst e
      cases h
    · subst e
      rw [List.concat_eq_append] at *
      rw [dv_snoc, Nat.pow_succ]
      have b := d c (List.mem_append_right _ (List.mem_singleton.mpr rfl))
      have := dv_lt n r (by rw [List.length_append] at h; simpa using h) fun x hx => d x (List.mem_append_left _ hx)
      omega
/-- int(text) of digits, perhaps behind a minus sign -/
theorem read_int {a : List Nat} (h : NumText.AllDigits (bare a) ∧ bare a ≠ []) (l : a.length ≤ 600) : ∃ n : Int, intText? (SX.S a) = some n ∧ n.natAbs < 10 ^ a.length ∧ ∀ i, a = intL i → n = i := by
  unfold bare at h
  by_cases e : a.head? = some 45
  · rw [if_pos e] at h
    obtain ⟨b, rfl⟩ : ∃ b, a = 45 :: b := by
      cases a with
      | nil => cases e
      | cons x b =>
        cases (show x = 45 from Option.some.inj e)
        exact ⟨b, rfl⟩
    refine ⟨_, PySem.intText_neg (x := SX.S (45 :: b)) rfl h.1 h.2 (by rw [SX.S_len]; omega), ?_, fun i hi => ?_⟩
    · rw [Int.natAbs_neg, Int.natAbs_natCast]
      exact Nat.lt_of_lt_of_le (dv_lt _ _ rfl h.1) (Nat.pow_le_pow_right (by decide) (by rw [List.length_cons]; omega))
    · rcases (intL_iff _ i).mp hi with ⟨_, _, _, d⟩ | ⟨c, _⟩
      · exact d.symm
      · exact absurd rfl (head_dig c)
  · rw [if_neg e] at h
    refine ⟨_, PySem.intText_digits (x := SX.S a) h.1 h.2 (by rw [SX.S_len]; omega), ?_, fun i hi => ?_⟩
    · rw [Int.natAbs_natCast]
      exact dv_lt _ _ rfl h.1
    · rcases (intL_iff _ i).mp hi with ⟨c, _⟩ | ⟨_, d⟩
      · exact absurd c e
      · exact d.symm
theorem bare_intL (i : Int) : NumText.AllDigits (bare (intL i)) ∧ bare (intL i) ≠ [] := by
  unfold bare
  rcases (intL_iff _ i).mp rfl with ⟨h, c, _, _⟩ | ⟨c, _⟩
  · rw [if_pos h]
    exact ⟨c.1, c.2.1⟩
  · rw [if_neg (head_dig c)]
    exact ⟨c.1, c.2.1⟩
theorem rp_bare (a : List Nat) : Txt.removeprefix (SX.S a) (Str.ofString "-") = SX.S (bare a) := by
  have m : Str.ofString "-" = SX.S [45] := by decide +kernel
  rw [m]
  unfold Txt.removeprefix Txt.affix
  have hs : Builtin.Str.subAt (SX.S a) (SX.S [45]) 0 = decide (a.head? = some 45) := by
    rw [PySem.StrLaws.subAt_eq]
    cases a with
    | nil => rfl
    | cons x b =>
      show (List.take 1 (x :: b) == [45]) = _
      by_cases e : x = 45
      · subst e
        simp
      · simp [e]
  rw [hs]
  unfold bare
  by_cases e : a.head? = some 45
  · rw [decide_eq_true e, if_pos e]
    cases a with
    | nil => cases e
    | cons x b =>
      show (if ((SX.S (x :: b)).length - 1 == (SX.S (x :: b)).length) = true then _ else Builtin.Str.strSub (SX.S (x :: b)) 1 (SX.S (x :: b)).length) = SX.S b
      rw [if_neg (by rw [SX.S_len]; simp)]
      refine TL.ext_tl ?_
      simp [Builtin.Str.strSub, TL.tl, Str.length]
  · rw [decide_eq_false e, if_neg e]
    rfl
theorem ratL_inj {q r : Rat} (h : ratL q = ratL r) : q = r := by
  by_cases m : 47 ∈ ratL q
  · obtain ⟨a, b, e, f⟩ := first_at _ m
    obtain ⟨a1, b1, _⟩ := (ratL_two f q).mp e.symm
    obtain ⟨a2, b2, _⟩ := (ratL_two f r).mp (e.symm.trans h)
    exact Rat.ext (intL_inj (a1.symm.trans a2)) (TL.numL_inj (b1.symm.trans b2))
  · obtain ⟨i, a1, b1⟩ := (ratL_one m q).mp rfl
    obtain ⟨j, a2, b2⟩ := (ratL_one m r).mp h
    rw [b1, b2, intL_inj (a1.symm.trans a2)]
end WT
set_option linter.all false
namespace WR
open PySem PySem.Spec PyProof.Rows L2 WH WB WM
theorem foldl_rep (cs : List Nat) : ∀ (n : Nat) (acc : Array Nat), (List.replicate n (SX.S cs).cps).foldl (· ++ ·) acc = (acc.toList ++ (List.replicate n cs).flatten).toArray
  | 0, acc => by simp
  | n + 1, acc => by
    rw [List.replicate_succ, List.foldl_cons, foldl_rep cs n, List.replicate_succ, List.flatten_cons]
    simp [SX.S]
def rRepS : R2 := fun x y H Q => ∃ (cs : List Nat) (k : Int), x = .str (SX.S cs) ∧ y = .int k ∧ 0 ≤ k ∧ k ≤ 1000 ∧ cs.length ≤ 1000 ∧ Q (.str (SX.S (List.replicate k.toNat cs).flatten)) H
theorem op_rep_str {X : Cx} : OpR X (binaryOp .Mult) rRepS := by
  rintro pins s σ H x y v u Q I rx ry ⟨cs, k, rfl, rfl, k0, k1, l, q⟩
  obtain ⟨t, rfl⟩ := rx
  obtain ⟨t', rfl⟩ := ry
  have lk : cs.length * k.toNat ≤ 1000 * 1000 := Nat.mul_le_mul l (by omega)
  refine PySem.P.mul_str ?_ (fun h1 h2 => ?_) (fun h1 h2 => ?_) ?_
  · rw [decide_eq_false (by omega), decide_eq_false (by omega)]
    rfl
  · rw [SX.S_len]
    have h3 : (9000000000000 : Int) ≤ (2 ^ 63 - 1) / k := by
      refine (Int.le_ediv_iff_mul_le (by omega)).mpr ?_
      omega
    omega
  · rw [SX.S_len]
    unfold PySem.Builtin.Str.tooLong
    refine decide_eq_false ?_
    have : (1000000 : Nat) ≤ sizeLine := by decide
    omega
  · by_cases h : k < 1
    · rw [if_pos h]
      have : k = 0 := by omega
      subst this
      simp only [Made.post]
      exact ⟨by decide, .str (SX.S []), H, Inv.tok I _, ⟨_, rfl⟩, q⟩
    · rw [if_neg h]
      by_cases h2 : (k == 1 || (SX.S cs).length == 0) = true
      · rw [if_pos h2]
        refine ⟨.str (SX.S cs), H, I, ⟨t, rfl⟩, ?_⟩
        rw [Bool.or_eq_true, beq_iff_eq, beq_iff_eq] at h2
        rcases h2 with rfl | h2
        · simpa using q
        · rw [SX.S_len, List.length_eq_zero_iff] at h2
          subst h2
          simpa using q
      · rw [if_neg h2]
        simp only [Made.post]
        have e : ({ cps := List.foldl (fun x1 x2 => x1 ++ x2) #[] (List.replicate k.toNat (SX.S cs).cps) } : Str) = SX.S (List.replicate k.toNat cs).flatten := by
          have := foldl_rep cs k.toNat #[]
          simp only [SX.S] at this ⊢
          rw [this]
          simp
        rw [e]
        refine ⟨?_, .str (SX.S (List.replicate k.toNat cs).flatten), H, Inv.tok I _, ⟨_, rfl⟩, q⟩
        rw [SX.S_len, List.length_flatten, List.map_replicate, List.sum_replicate_nat]
        have : (1000000 : Nat) ≤ sizeLine := by decide
        rw [Nat.mul_comm] at lk
        omega
end WR
set_option Elab.async false
set_option linter.all false
set_option maxRecDepth 100000
set_option maxHeartbeats 4000000
/-! classmethods as their callers know them -/
namespace WC
open PySem PySem.Spec PyProof.Rows L2 WH WB
structure CMthd (P : Program) (w : World) (K : Fg) (mg : Str → Option Value) (base : Heap) (k : Nat) (C : Addr) (m : Str) (ps : List Str) (sp : Sp) : Prop where
  ex : ∃ mc p g fd, ClX.CRead K C mc ∧ ClX.CMet K C mc m p g ∧ L2.Binds K fd ps [] ∧ FnX P w K mg base k g fd ps sp
structure CMthdK (P : Program) (w : World) (K : Fg) (mg : Str → Option Value) (base : Heap) (k : Nat) (C : Addr) (m : Str) (ps ks : List Str) (gV : List V → List V → List V) (sp : Sp) : Prop where
  ex : ∃ mc p g fd gg, ClX.CRead K C mc ∧ ClX.CMet K C mc m p g ∧ KBn K fd ps 1 ks gg gV ∧ FnX P w K mg base k g fd ps sp
section
variable {X : Cx} {k : Nat} {C : Addr} {ps ks : List Str} {sp : Sp} {E : XK} {m : Str} {pos apos : Pos} {o : Expr} {kws : List Keyword} {ta : TE} {tk : TA} {gV : List V → List V → List V} {pl : Sem Bool}
theorem pe_clsM {e : Expr} {es : List Expr} {t : TA} (c : CMthd X.prog X.w X.K X.mg X.base k C m ps sp) (he : PE X o ta) (hr : Room k X.A) (hx : Passes (L2.CX X.prog X.w) X E) (ha : PA X (e :: es) t)
    (h1 : starEach (e :: es) X.env = (false, eval e X.env) :: starEach es X.env := by rfl) (h2 : ((backTo pos (starEach es X.env)).any (·.1)) = false := by rfl)
    (h5 : eval (.Call (.Attribute o m apos) (e :: es) [] pos) X.env = (do let ov ← eval o X.env; standAt apos.atName; let (f, first) ← holding [ov] (getMethod ov m pl); callWith pos f first (backTo pos (starEach (e :: es) X.env)) (backToKw pos (keywordEach [] X.env))) := by rfl) :
    PE X (.Call (.Attribute o m apos) (e :: es) [] pos) (ClX.tCMeth C (fun vs H Q E => sp (vs ++ []) H Q E) E ta t) := by
  obtain ⟨mc, p, g, fd, cr, cm, hb, F⟩ := c.ex
  exact ClX.pe_cmeth (pl := pl) he cr cm (F.raw hb .nil) hr hx ha h1 h2 h5
/-- the call of a bound def by names -/
theorem run_cmN {g : Addr} {fd : FuncData} {gg : List Value → List Value → List Value} {q : Addr} {pins : List (Addr × Obj)} {σ : L2.St} {H : Hp} {s : Shared} {Q : VK} {ws : List Value} {zs : List V}
    (F : FnX X.prog X.w X.K X.mg X.base k g fd ps sp) (hr : Room k X.A) (hb : KBn X.K fd ps 1 ks gg gV) (hx : Passes (L2.CX X.prog X.w) X E)
    (I : L2.Inv X ((q, PySem.W.methodObj (.ref g) (.ref C)) :: pins) σ H s) (r : Vals zs ws) (l : zs.length = ks.length) (h : sp (gV [.ref C] zs) H Q E) :
    wpAny (model X.prog X.w) X.A (call (.ref q) [] (ks.zip ws)) (EP X pins σ Q) X.xe s := by
  have rc : Vals [V.ref C] [Value.ref C] := .cons (show RelV (V.ref C) (Value.ref C) from rfl) .nil
  have z := F.run X.A X.stack s H ⟨[.ref C], ks.zip ws⟩ (gg [.ref C] ws) (gV [.ref C] zs) Q E hr I.env0 (hb.to s [.ref C] ws I.kIn rfl (r.length.symm.trans l)) (hb.rel rc r) h
  refine wpAny_call (PySem.W.method_call (pos := []) (kw := ks.zip ws) (ClX.pin_at I) (codeAny_mono z fun r s' hq => ?_))
  cases r with
  | error e => exact hx _ σ H s e s' I hq
  | ok fl =>
    cases fl with
    | ret u => exact ClX.unpinE (I.after hq)
    | next => exact False.elim hq
    | brk => exact False.elim hq
    | cont => exact False.elim hq
def tCMethK (C : Addr) (n : Nat) (sp : Sp) (gV : List V → List V → List V) (E : XK) (ta : TE) (tk : TA) : TE := fun σ H Q => ta σ H fun x H1 => x = .ref C ∧ tk σ H1 fun zs H2 => zs.length = n ∧ sp (gV [.ref C] zs) H2 Q E
theorem pe_clsMK (c : CMthdK X.prog X.w X.K X.mg X.base k C m ps ks gV sp) (he : PE X o ta) (hr : Room k X.A) (hx : Passes (L2.CX X.prog X.w) X E) (hkw : PK X kws tk)
    (h1 : (backToKw pos (keywordEach kws X.env)).all (·.1.isSome) = true := by rfl) (h2 : (backToKw pos (keywordEach kws X.env)).filterMap (·.1) = ks := by rfl)
    (h4 : ((backTo pos (starEach [] X.env)).any (·.1) || (backToKw pos (keywordEach kws X.env)).any (·.1.isNone)) = false := by rfl)
    (h5 : eval (.Call (.Attribute o m apos) [] kws pos) X.env = (do let ov ← eval o X.env; standAt apos.atName; let (f, first) ← holding [ov] (getMethod ov m pl); callWith pos f first (backTo pos (starEach [] X.env)) (backToKw pos (keywordEach kws X.env))) := by rfl) :
    PE X (.Call (.Attribute o m apos) [] kws pos) (tCMethK C ks.length sp gV E ta tk) := by
  obtain ⟨mc, p, g, fd, gg, cr, cm, hb, F⟩ := c.ex
  refine ⟨fun pins s σ H Q I h => PySem.W.methodCall_KW (pl := pl) (thn (he.run pins s σ H _ I h) fun u s1 ⟨x, H1, I1, rx, ex, q⟩ => ?_) h5⟩
  subst ex
  cases (show u = Value.ref C from rx)
  refine ClX.getmethcm_ok I1 cr cm fun s2 I2 => ?_
  refine PySem.W.callWith_of (P := PySem.W.MethP X.K s1.heap.objs.size g (.ref C)) h4 (PySem.W.keeps_M cm.fi) (PyProof.Rows.evalArgs_kw2_nil h1 (thn (hkw.run pos _ s2 σ H1 _ I2 q) fun ws s3 ⟨zs, H2, I3, rz, l2, q2⟩ => ⟨⟨ClX.pin_at I3, I3.kIn⟩, ?_⟩))
  rw [h2]
  exact run_cmN F hr hb hx I3 rz l2 q2
/-- a def called with nothing -/
theorem pe_callee0 {x : Str} {p : Pos} (c : Callee X.prog X.w X.K X.mg X.base k x ps sp) (hr : Room k X.A) (hg : Gl X x := by rfl) (hdb : (x == ("__debug__" : Str)) = false := by decide) : PE X (.Call (.Name x p) [] [] pos) (tCall sp [] E0 tNil) := by
  obtain ⟨f, fd, h1, h2, h3, h4⟩ := c.ex
  exact pe_call0 h4 hr hg h1 h2 h3 .nil passL hdb
end
end WC
set_option Elab.async false
set_option linter.all false
set_option maxRecDepth 100000
set_option maxHeartbeats 4000000
namespace PP
open PySem PySem.Spec PyProof.Rows L2 WH WB WM WR
def top (i : Nat) : Stmt := PySem.Challenge.pw_winoften_k03_texts_of_ratios.main.body.getD i (.Pass ⟨0, 0, 0, 0⟩)
section
variable {P : Program} {w : World} {K : Fg} {mg : Str → Option Value} {base : Heap} {C CZ : Addr} {f : Addr} {fd : FuncData}
/-! ## the class Ratio -/
/-! is_whole -/
abbrev s_is_whole : Stmt := top 7
theorem sc_is_whole : FnScope ["value"] ["value"] (defScope s_is_whole) := ⟨rfl, rfl, rfl, by decide +kernel, rfl, by decide +kernel, by decide +kernel⟩
def spWhole (K : Fg) (C : Addr) : Sp := fun vs H Q _ => ∃ x wh rt, vs = [x] ∧ TyN K C H x wh rt ∧ Q (.bl wh) H
theorem ok_is_whole (F : FnP K "is_whole" "is_whole" s_is_whole [] f fd) (m_isinstance : mg "isinstance" = none) (m_int : mg "int" = none) : FnX P w K mg base 1 f fd ["value"] (spWhole K C) := by
  refine F.ok sc_is_whole (fun vs H Q E h => ?_) (fun cdv A outer s H vs Q E hr h => ?_)
  · obtain ⟨x, wh, rt, rfl, _⟩ := h
    rfl
  · obtain ⟨x, wh, rt, rfl, ⟨t, bi, ty, h1, e, h3⟩, k⟩ := h
    refine ⟨_, (pss_one (ps_ret (pe_and (pe_callB call_isi (by rfl) m_isinstance (by decide +kernel) (pa_cons (pv 0) (pa_cons (pe_bltn (v := .ty "int") (by rfl) m_int (by decide +kernel) rfl) pa_nil))) (pe_and (pe_cmpR op_notAny (pv 0) pe_bl (nomark _)) (pe_one (pe_cmpR op_notAny (pv 0) pe_bl (nomark _))))))), ?_⟩
    refine ⟨_, rfl, x, .ty "int", t, _, bi, rfl, .ty _, ty, h1, bi, rfl, ?_⟩
    subst e
    cases bi with
    | false => exact iteF k
    | true =>
      refine iteT ⟨_, rfl, true, rfl, _, rfl, ?_⟩
      cases hb : isB x with
      | true =>
        rw [hb] at k
        cases x with
        | bl b =>
          cases b with
          | true => exact iteF k
          | false => exact iteT ⟨_, rfl, false, rfl, k⟩
        | _ => cases hb
      | false =>
        rw [hb] at k
        rw [isB_no hb]
        refine iteT ⟨_, rfl, false, rfl, ?_⟩
        rw [isB_no hb]
        exact k
theorem TyN.int {H : Hp} {i : Int} (h : PySem.W.kitOne K (.type "int") (.ref C) = some false) : TyN K C H (.int i) true false := ⟨.type "int", true, .base (.int i), kit_ty (by decide +kernel), rfl, h⟩
/-! Ratio(top, bottom) -/
abbrev s_Ratio_init : Stmt := inClass (top 11) 0
theorem sc_Ratio_init : FnScope ["self", "top", "bottom", "common"] ["self", "top", "bottom"] (defScope s_Ratio_init) := ⟨rfl, rfl, rfl, by decide +kernel, rfl, by decide +kernel, by decide +kernel⟩
def spRInit (C CZ : Addr) : Sp := fun vs H Q E => ∃ x dx n d, vs = [.ref x, .int n, .int d] ∧ H x = some (.ins C dx []) ∧ ((d ≠ 0 ∧ d.natAbs < 2 ^ 9000 ∧ Q .non (upd H x (.ins C dx (ratF (Rat.divInt n d))))) ∨ (d = 0 ∧ E (.ref CZ) none H))
theorem ratF_of {t b : Int} {q : Rat} (h1 : t = q.num) (h2 : b = q.den) : putF "_bottom" (.int b) (putF "_top" (.int t) []) = ratF q := by
  subst h1 h2
  show (if ("_top" : Str) = "_bottom" then _ else (("_top" : Str), V.int q.num) :: putF "_bottom" (V.int q.den) []) = _
  rw [if_neg (by decide +kernel)]
  rfl
theorem ratF_top {q : Rat} : (ratF q).lookup ("_top" : Str) = some (.int q.num) := by unfold ratF; simp [List.lookup]
theorem ratF_bot {q : Rat} : (ratF q).lookup ("_bottom" : Str) = some (.int q.den) := by
  unfold ratF
  have e : (("_bottom" : Str) == "_top") = false := by decide +kernel
  simp [List.lookup, e]
/-- what the written part says of the class -/
structure RatC (K : Fg) (C : Addr) : Prop where
  cl : Cls K C
  nT : NoAttr K C "_top"
  nB : NoAttr K C "_bottom"
  ki : PySem.W.kitOne K (.type "int") (.ref C) = some false
  ca : PySem.W.findIn K (.ref C) "__class__" = some (some (.builtin "object.__class__"))
  cm : PySem.W.mroIn K C (.type "object") = some true
  ci : PySem.W.kitOne K (.ref C) (.type "int") = some false
  cb : PySem.W.kitOne K (.ref C) (.type "bool") = some false
  cc : PySem.W.kitOne K (.ref C) (.ref C) = some true
theorem RatC.ty {H : Hp} {a : Addr} {q : Rat} (T : RatC K C) (r : RatAt C H a q) : TyX K H (.ref a) (.ref C) := by
  obtain ⟨dx, h⟩ := r
  exact .base (.ins h T.cl T.ca (by kernel_rfl) (by kernel_rfl) T.cm)
theorem RatC.tyn {H : Hp} {a : Addr} {q : Rat} (T : RatC K C) (r : RatAt C H a q) : TyN K C H (.ref a) false true := ⟨.ref C, false, T.ty r, T.ci, rfl, T.cc⟩
theorem RatC.num {H : Hp} {v : V} {q : Rat} (T : RatC K C) (r : NumAt C H v q) : ∃ wh rt, TyN K C H v wh rt ∧ (wh || rt) = true := by
  rcases r with ⟨i, rfl, _⟩ | ⟨a, rfl, r⟩
  · exact ⟨true, false, TyN.int T.ki, rfl⟩
  · exact ⟨false, true, T.tyn r, rfl⟩
/-- isinstance(x, int) of an integer -/
theorem int_kit : PySem.W.kitOne K (.type "int") (.type "int") = some true := kit_ty (by decide +kernel)
theorem init_tail {n d : Int} {q : Rat} (hd : d ≠ 0) (e : q = Rat.divInt n d) : (0 < d → (Nat.gcd n.natAbs d.natAbs : Int) = 1 → n = q.num ∧ d = q.den) ∧ (d < 0 → -(Nat.gcd n.natAbs d.natAbs : Int) = 1 → False) := by
  subst e
  refine ⟨fun h g => ?_, fun h g => by omega⟩
  have h1 := fdiv_num n d hd ((Nat.gcd n.natAbs d.natAbs : Nat) : Int) (by rw [if_neg (by omega)])
  have h2 := fdiv_den n d hd ((Nat.gcd n.natAbs d.natAbs : Nat) : Int) (by rw [if_neg (by omega)])
  rw [g, Int.fdiv_one] at h1 h2
  exact ⟨h1, h2⟩
theorem ok_Ratio_init (F : FnP K "__init__" "Ratio.__init__" s_Ratio_init [.int 1] f fd) (T : RatC K C) (m_isinstance : mg "isinstance" = none) (m_int : mg "int" = none) (g_gcd : mg "gcd" = some (.builtin "math.gcd")) (z_ByZero : ExcC K mg "ByZero" CZ) :
    FnX P w K mg base 2 f fd ["self", "top", "bottom"] (spRInit C CZ) := by
  refine F.ok sc_Ratio_init (fun vs H Q E h => ?_) (fun cdv A outer s H vs Q E hr h => ?_)
  · obtain ⟨x, dx, n, d, rfl, _⟩ := h
    rfl
  · obtain ⟨x, dx, n, d, rfl, hx, k⟩ := h
    refine ⟨_, (pss_cons (ps_if (PW.pt (pw_or (pt_not (pt_val (pe_callB call_isi (by rfl) m_isinstance (by decide +kernel) (pa_cons (pv 1) (pa_cons (pe_bltn (v := .ty "int") (by rfl) m_int (by decide +kernel) rfl) pa_nil))))) (pw_or (pt_cmpR op_isAny (pv 1) pe_bl (nomark _)) (pw_or1 (pt_cmpR op_isAny (pv 1) pe_bl (nomark _)))))) (pss_one ps_never) pss_nil)
      (pss_cons (ps_if (PW.pt (pw_or (pt_not (pt_val (pe_callB call_isi (by rfl) m_isinstance (by decide +kernel) (pa_cons (pv 2) (pa_cons (pe_bltn (v := .ty "int") (by rfl) m_int (by decide +kernel) rfl) pa_nil))))) (pw_or (pt_cmpR op_isAny (pv 2) pe_bl (nomark _)) (pw_or1 (pt_cmpR op_isAny (pv 2) pe_bl (nomark _)))))) (pss_one ps_never) pss_nil)
      (pss_cons (ps_if (pt_cmpR op_eq (pv 2) pe_int (nomark _)) (pss_one (ps_raise0 z_ByZero (takes_of rfl rfl rfl rfl))) pss_nil)
      (pss_cons (ps_asg (pe_callBfun cr_gcd (by rfl) g_gcd (pa_cons (pv 1) (pa_cons (pv 2) pa_nil))) (pg_name (i := 3) sc_Ratio_init.nd rfl (.inl rfl)))
      (pss_cons (ps_if (pt_cmpR op_lt (pv 2) pe_int (nomark _)) (pss_one (ps_asg (pe_un un_neg (pv 3)) (pg_name (i := 3) sc_Ratio_init.nd rfl (.inl rfl)))) pss_nil)
      (pss_one (ps_if (pt_cmpR op_eq (pv 3) pe_int (nomark _)) (pss_cons (ps_fld (pv 0) (pv 1) rfl)
      (pss_one (ps_fld (pv 0) (pv 2) rfl))) (pss_cons (ps_fld (pv 0) (pe_op op_divA (pv 1) (pv 3)) rfl)
      (pss_one (ps_fld (pv 0) (pe_op op_divA (pv 2) (pv 3)) rfl)))))))))), ?_⟩
    refine ⟨_, rfl, .int n, .ty "int", .type "int", _, true, rfl, .ty _, (.base (.int _)), int_kit, true, rfl, iteF ⟨_, rfl, true, rfl, false, rfl, iteF ⟨_, rfl, false, rfl, false, rfl, iteF ?_⟩⟩⟩
    refine ⟨_, rfl, .int d, .ty "int", .type "int", _, true, rfl, .ty _, (.base (.int _)), int_kit, true, rfl, iteF ⟨_, rfl, true, rfl, false, rfl, iteF ⟨_, rfl, false, rfl, false, rfl, iteF ?_⟩⟩⟩
    rcases k with ⟨hd, hs, k⟩ | ⟨rfl, k⟩
    rotate_left
    · exact ⟨_, rfl, rfl, true, rfl, iteT k⟩
    refine ⟨_, rfl, rfl, _, rfl, ite2 (fun e => absurd (of_decide_eq_true e) (fun z => hd (V.int.inj z))) fun _ => ?_⟩
    refine ⟨_, rfl, _, rfl, n, d, rfl, ?_⟩
    refine ⟨_, rfl, _, _, rfl, rfl, _, rfl, ?_⟩
    have hl : (Nat.gcd n.natAbs d.natAbs : Int).natAbs < 2 ^ 9000 := Nat.lt_of_le_of_lt (by have := gcd_le n d hd; omega) hs
    have it := init_tail (n := n) hd rfl
    refine ite2 (fun e => ?_) (fun e => ?_)
    · have e := of_decide_eq_true e
      refine ⟨_, rfl, _, rfl, ?_⟩
      refine ⟨_, rfl, rfl, _, rfl, ite2 (fun z => (it.2 e (V.int.inj (of_decide_eq_true z))).elim) fun _ => ?_⟩
      refine ⟨_, rfl, _, rfl, _, _, rfl, rfl, divA (n := 9000) (by have := gcd_ne n d hd; omega) (by rw [Int.natAbs_neg]; exact hl) (by decide), ?_⟩
      refine ⟨_, rfl, x, C, dx, [], rfl, hx, T.cl, T.nT, (by show 0 < 1000; decide), ?_⟩
      refine ⟨_, rfl, _, rfl, _, _, rfl, rfl, divA (n := 9000) (by have := gcd_ne n d hd; omega) (by rw [Int.natAbs_neg]; exact hl) (by decide), ?_⟩
      refine ⟨_, rfl, x, C, dx, _, rfl, upd_same, T.cl, T.nB, (by show 1 < 1000; decide), ?_⟩
      rw [upd_upd]
      exact (congrArg (fun l => Q .non (upd H x (.ins C dx l))) (ratF_of (fdiv_num n d hd _ (by rw [if_pos e])) (fdiv_den n d hd _ (by rw [if_pos e])))).mpr k
    · have e := fun z => e (decide_eq_true z)
      refine ⟨_, rfl, rfl, _, rfl, ite2 (fun z => ?_) fun _ => ?_⟩
      · have hq := it.1 (by have e2 : ¬ d < 0 := e; clear hs hl k; omega) (V.int.inj (of_decide_eq_true z))
        refine ⟨_, rfl, _, rfl, x, C, dx, [], rfl, hx, T.cl, T.nT, (by show 0 < 1000; decide), ?_⟩
        refine ⟨_, rfl, _, rfl, x, C, dx, _, rfl, upd_same, T.cl, T.nB, (by show 1 < 1000; decide), ?_⟩
        rw [upd_upd]
        exact (congrArg (fun l => Q .non (upd H x (.ins C dx l))) (ratF_of hq.1 hq.2)).mpr k
      · refine ⟨_, rfl, _, rfl, _, _, rfl, rfl, divA (n := 9000) (gcd_ne n d hd) hl (by decide), ?_⟩
        refine ⟨_, rfl, x, C, dx, [], rfl, hx, T.cl, T.nT, (by show 0 < 1000; decide), ?_⟩
        refine ⟨_, rfl, _, rfl, _, _, rfl, rfl, divA (n := 9000) (gcd_ne n d hd) hl (by decide), ?_⟩
        refine ⟨_, rfl, x, C, dx, _, rfl, upd_same, T.cl, T.nB, (by show 1 < 1000; decide), ?_⟩
        rw [upd_upd]
        exact (congrArg (fun l => Q .non (upd H x (.ins C dx l))) (ratF_of (fdiv_num n d hd _ (by rw [if_neg e])) (fdiv_den n d hd _ (by rw [if_neg e])))).mpr k
/-- a quotient is made of two integers -/
theorem mk_rat {H : Hp} {Q : VK} {n d : Int} {E : XK} (hd : d ≠ 0) (hs : d.natAbs < 2 ^ 9000) (k : RetRat C H Q (Rat.divInt n d)) (x dx : Addr) (hx : H x = none) (hdx : H dx = none) (ne : dx ≠ x) :
    spRInit C CZ [.ref x, .int n, .int d] (upd (upd H dx (.own x)) x (.ins C dx [])) (fun v H2 => v = .non ∧ Q (.ref x) H2) E := by
  refine ⟨x, dx, n, d, rfl, upd_same, .inl ⟨hd, hs, rfl, ?_⟩⟩
  rw [upd_upd]
  exact k x _ hx ((Ex.new hdx).mut hx) ⟨dx, upd_same⟩
abbrev s_Ratio_top : Stmt := inClass (top 11) 1
theorem sc_Ratio_top : FnScope ["self"] ["self"] (defScope s_Ratio_top) := ⟨rfl, rfl, rfl, by decide +kernel, rfl, by decide +kernel, by decide +kernel⟩
abbrev s_Ratio_bottom : Stmt := inClass (top 11) 2
theorem sc_Ratio_bottom : FnScope ["self"] ["self"] (defScope s_Ratio_bottom) := ⟨rfl, rfl, rfl, by decide +kernel, rfl, by decide +kernel, by decide +kernel⟩
def spTop (C : Addr) : Sp := fun vs H Q _ => ∃ a q, vs = [.ref a] ∧ RatAt C H a q ∧ Q (.int q.num) H
def spBottom (C : Addr) : Sp := fun vs H Q _ => ∃ a q, vs = [.ref a] ∧ RatAt C H a q ∧ Q (.int q.den) H
theorem ok_Ratio_top (F : FnP K "top" "Ratio.top" s_Ratio_top [] f fd) (T : RatC K C) : FnX P w K mg base 1 f fd ["self"] (spTop C) := by
  refine F.ok sc_Ratio_top (fun vs H Q E h => ?_) (fun cdv A outer s H vs Q E hr h => ?_)
  · obtain ⟨a, q, rfl, _⟩ := h
    rfl
  · obtain ⟨a, q, rfl, ⟨dx, ha⟩, k⟩ := h
    refine ⟨_, (pss_one (ps_ret (pe_fld (pv 0) rfl))), ?_⟩
    exact ⟨_, rfl, a, C, dx, _, _, rfl, ha, T.cl, T.nT, ratF_top, k⟩
theorem ok_Ratio_bottom (F : FnP K "bottom" "Ratio.bottom" s_Ratio_bottom [] f fd) (T : RatC K C) : FnX P w K mg base 1 f fd ["self"] (spBottom C) := by
  refine F.ok sc_Ratio_bottom (fun vs H Q E h => ?_) (fun cdv A outer s H vs Q E hr h => ?_)
  · obtain ⟨a, q, rfl, _⟩ := h
    rfl
  · obtain ⟨a, q, rfl, ⟨dx, ha⟩, k⟩ := h
    refine ⟨_, (pss_one (ps_ret (pe_fld (pv 0) rfl))), ?_⟩
    exact ⟨_, rfl, a, C, dx, _, _, rfl, ha, T.cl, T.nB, ratF_bot, k⟩
/-! is_number, as_ratio -/
abbrev s_is_number : Stmt := top 12
theorem sc_is_number : FnScope ["value"] ["value"] (defScope s_is_number) := ⟨rfl, rfl, rfl, by decide +kernel, rfl, by decide +kernel, by decide +kernel⟩
abbrev s_as_ratio : Stmt := top 13
theorem sc_as_ratio : FnScope ["number"] ["number"] (defScope s_as_ratio) := ⟨rfl, rfl, rfl, by decide +kernel, rfl, by decide +kernel, by decide +kernel⟩
def spNumber (K : Fg) (C : Addr) : Sp := fun vs H Q _ => ∃ x wh rt, vs = [x] ∧ TyN K C H x wh rt ∧ Q (.bl (wh || rt)) H
def spAsRatio (C : Addr) : Sp := fun vs H Q _ => ∃ x q, vs = [x] ∧ NumAt C H x q ∧ ∀ b H', Ex H H' → RatAt C H' b q → Q (.ref b) H'
theorem ok_is_number (F : FnP K "is_number" "is_number" s_is_number [] f fd) (c_is_whole : Callee P w K mg base 1 "is_whole" ["value"] (spWhole K C)) (m_isinstance : mg "isinstance" = none) (g_Ratio : mg "Ratio" = some (.ref C)) :
    FnX P w K mg base 2 f fd ["value"] (spNumber K C) := by
  refine F.ok sc_is_number (fun vs H Q E h => ?_) (fun cdv A outer s H vs Q E hr h => ?_)
  · obtain ⟨x, wh, rt, rfl, _⟩ := h
    rfl
  · obtain ⟨x, wh, rt, rfl, ty, k⟩ := h
    obtain ⟨t, bi, tx, h1, e, h3⟩ := ty.ex
    refine ⟨_, (pss_one (ps_ret (pe_or (pe_callB call_isi (by rfl) m_isinstance (by decide +kernel) (pa_cons (pv 0) (pa_cons (pe_glob (v := .ref C) (by rfl) g_Ratio rfl) pa_nil))) (pe_one (pe_callee c_is_whole (hr.mono (by decide)) (pa_cons (pv 0) pa_nil)))))), ?_⟩
    refine ⟨_, rfl, x, .ref C, t, _, rt, rfl, .own C, tx, h3, rt, rfl, ?_⟩
    cases rt with
    | true => exact iteT (by rw [Bool.or_true] at k; exact k)
    | false => exact iteF ⟨_, rfl, _, _, _, rfl, ty, by rw [Bool.or_false] at k; exact k⟩
theorem ok_as_ratio (F : FnP K "as_ratio" "as_ratio" s_as_ratio [] f fd) (T : RatC K C) (m_isinstance : mg "isinstance" = none) (g_Ratio : mg "Ratio" = some (.ref C)) (k_Ratio1 : Maker P w K mg base 2 "Ratio" C ["self", "top", "bottom"] [.int 1] (spRInit C CZ)) :
    FnX P w K mg base 4 f fd ["number"] (spAsRatio C) := by
  refine F.ok sc_as_ratio (fun vs H Q E h => ?_) (fun cdv A outer s H vs Q E hr h => ?_)
  · obtain ⟨x, q, rfl, _⟩ := h
    rfl
  · obtain ⟨x, q, rfl, num, k⟩ := h
    refine ⟨_, (pss_cons (ps_if (pt_val (pe_callB call_isi (by rfl) m_isinstance (by decide +kernel) (pa_cons (pv 0) (pa_cons (pe_glob (v := .ref C) (by rfl) g_Ratio rfl) pa_nil)))) (pss_one (ps_ret (pv 0))) pss_nil)
      (pss_one (ps_ret (pe_maker k_Ratio1 (hr.mono (by decide)) passL (pa_cons (pv 0) pa_nil))))), ?_⟩
    rcases num with ⟨i, rfl, rfl⟩ | ⟨a, rfl, r⟩
    · refine ⟨_, rfl, .int i, .ref C, .type "int", _, false, rfl, .own C, .base (.int i), T.ki, false, rfl, iteF ?_⟩
      refine ⟨_, rfl, fun p dx hp hdx ne => mk_rat (by decide) (by decide) (fun p H' _ e r => k p H' e ?_) p dx hp hdx ne⟩
      rw [int_eq] at r
      exact r
    · refine ⟨_, rfl, .ref a, .ref C, .ref C, _, true, rfl, .own C, T.ty r, T.cc, true, rfl, iteT ?_⟩
      exact ⟨_, rfl, k a H Ex.rfl r⟩
/-! signs -/
theorem sz_mul {i j : Int} {n m : Nat} (h1 : i.natAbs < 2 ^ n) (h2 : j.natAbs < 2 ^ m) (hn : 0 < n ∧ n ≤ 20000) (hm : 0 < m ∧ m ≤ 20000) : CMulW i j := wide_mul h1 h2 hn.1 hm.1 (by omega)
theorem sz_den {n : Nat} {q : Rat} (h : Sz n q) : ((q.den : Int)).natAbs < 2 ^ n := by rw [Int.natAbs_natCast]; exact h.2
theorem den_mul_ne (q r : Rat) : (q.den : Int) * (r.den : Int) ≠ 0 := Int.ne_of_gt (Int.mul_pos (den_pos q) (den_pos r))
theorem den_mul_lt {q r : Rat} (hq : Sz 4000 q) (hr : Sz 4000 r) : ((q.den : Int) * (r.den : Int)).natAbs < 2 ^ 9000 := by
  have h := wide_lt (sz_den hq) (sz_den hr)
  exact Nat.lt_of_lt_of_le h (Nat.pow_le_pow_right (by decide) (by decide))
def spBin (C : Addr) (g : Rat → Rat → Rat) : Sp := fun vs H Q _ => ∃ a y q r, vs = [.ref a, y] ∧ RatAt C H a q ∧ NumAt C H y r ∧ Sz 4000 q ∧ Sz 4000 r ∧ RetRat C H Q (g q r)
theorem add_int (q : Rat) (i : Int) : Rat.divInt (q.num + i * q.den) q.den = q + (i : Rat) := by
  have h := add_eq q (i : Rat)
  rwa [Rat.den_intCast, Rat.num_intCast, Int.natCast_one, Int.mul_one, Int.mul_one] at h
theorem sub_int (q : Rat) (i : Int) : Rat.divInt (q.num - i * q.den) q.den = q - (i : Rat) := by
  have h := sub_eq q (i : Rat)
  rwa [Rat.den_intCast, Rat.num_intCast, Int.natCast_one, Int.mul_one, Int.mul_one] at h
theorem mul_int (q : Rat) (i : Int) : Rat.divInt (q.num * i) q.den = q * (i : Rat) := by
  have h := mul_eq q (i : Rat)
  rwa [Rat.den_intCast, Rat.num_intCast, Int.natCast_one, Int.mul_one] at h
abbrev s_Ratio_add : Stmt := inClass (top 11) 3
theorem sc_Ratio_add : FnScope ["self", "other"] ["self", "other"] (defScope s_Ratio_add) := ⟨rfl, rfl, rfl, by decide +kernel, rfl, by decide +kernel, by decide +kernel⟩
theorem ok_Ratio_add (F : FnP K "__add__" "Ratio.__add__" s_Ratio_add [] f fd) (T : RatC K C) (c_is_whole : Callee P w K mg base 1 "is_whole" ["value"] (spWhole K C)) (m_isinstance : mg "isinstance" = none) (g_Ratio : mg "Ratio" = some (.ref C))
    (k_Ratio2 : Maker P w K mg base 2 "Ratio" C ["self", "top", "bottom"] [] (spRInit C CZ)) :
    FnX P w K mg base 5 f fd ["self", "other"] (spBin C (fun q r => q + r)) := by
  refine F.ok sc_Ratio_add (fun vs H Q E h => ?_) (fun cdv A outer s H vs Q E hr h => ?_)
  · obtain ⟨a, y, q, r, rfl, _⟩ := h
    rfl
  · obtain ⟨a, y, q, r, rfl, ⟨dx, ha⟩, hn, zq, zr, k⟩ := h
    refine ⟨_, (pss_cons (ps_if (pt_val (pe_callB call_isi (by rfl) m_isinstance (by decide +kernel) (pa_cons (pv 1) (pa_cons (pe_glob (v := .ref C) (by rfl) g_Ratio rfl) pa_nil)))) (pss_one (ps_ret (pe_maker k_Ratio2 (hr.mono (by decide)) passL (pa_cons (pe_op op_add (pe_op op_mulW (pe_fld (pv 0) rfl) (pe_fld (pv 1) rfl)) (pe_op op_mulW (pe_fld (pv 1) rfl) (pe_fld (pv 0) rfl))) (pa_cons (pe_op op_mulW (pe_fld (pv 0) rfl) (pe_fld (pv 1) rfl)) pa_nil))))) pss_nil)
      (pss_cons (ps_if (pt_val (pe_callee c_is_whole (hr.mono (by decide)) (pa_cons (pv 1) pa_nil))) (pss_one (ps_ret (pe_maker k_Ratio2 (hr.mono (by decide)) passL (pa_cons (pe_op op_add (pe_fld (pv 0) rfl) (pe_op op_mulW (pv 1) (pe_fld (pv 0) rfl))) (pa_cons (pe_fld (pv 0) rfl) pa_nil))))) pss_nil)
      (pss_one ps_never))), ?_⟩
    rcases hn with ⟨i, rfl, rfl⟩ | ⟨b, rfl, hr'⟩
    · refine ⟨_, rfl, .int i, .ref C, .type "int", _, false, rfl, .own C, .base (.int i), T.ki, false, rfl, iteF ?_⟩
      refine ⟨_, rfl, _, _, _, rfl, TyN.int T.ki, true, rfl, iteT ?_⟩
      have zi : i.natAbs < 2 ^ 4000 := by have := zr.1; rwa [Rat.num_intCast] at this
      refine ⟨_, rfl, a, C, dx, _, _, rfl, ha, T.cl, T.nT, ratF_top, _, rfl, _, rfl, a, C, dx, _, _, rfl, ha, T.cl, T.nB, ratF_bot, _, _, rfl, rfl, sz_mul zi (sz_den zq) (by decide) (by decide), _, _, rfl, rfl, ?_⟩
      refine ⟨_, rfl, a, C, dx, _, _, rfl, ha, T.cl, T.nB, ratF_bot, ?_⟩
      refine fun p dp hp hdp ne => mk_rat (by have := den_pos q; omega) (Nat.lt_of_lt_of_le (sz_den zq) (Nat.pow_le_pow_right (by decide) (by decide))) (fun p H' n e h => k p H' n e ?_) p dp hp hdp ne
      rw [add_int] at h
      exact h
    · refine ⟨_, rfl, .ref b, .ref C, .ref C, _, true, rfl, .own C, T.ty hr', T.cc, true, rfl, iteT ?_⟩
      obtain ⟨dy, hb⟩ := hr'
      refine ⟨_, rfl, a, C, dx, _, _, rfl, ha, T.cl, T.nT, ratF_top, _, rfl, b, C, dy, _, _, rfl, hb, T.cl, T.nB, ratF_bot, _, _, rfl, rfl, sz_mul zq.1 (sz_den zr) (by decide) (by decide), ?_⟩
      refine ⟨_, rfl, b, C, dy, _, _, rfl, hb, T.cl, T.nT, ratF_top, _, rfl, a, C, dx, _, _, rfl, ha, T.cl, T.nB, ratF_bot, _, _, rfl, rfl, sz_mul zr.1 (sz_den zq) (by decide) (by decide), _, _, rfl, rfl, ?_⟩
      refine ⟨_, rfl, a, C, dx, _, _, rfl, ha, T.cl, T.nB, ratF_bot, _, rfl, b, C, dy, _, _, rfl, hb, T.cl, T.nB, ratF_bot, _, _, rfl, rfl, sz_mul (sz_den zq) (sz_den zr) (by decide) (by decide), ?_⟩
      refine fun p dp hp hdp ne => mk_rat (den_mul_ne q r) (den_mul_lt zq zr) (fun p H' n e h => k p H' n e ?_) p dp hp hdp ne
      rw [add_eq] at h
      exact h
abbrev s_Ratio_sub : Stmt := inClass (top 11) 4
theorem sc_Ratio_sub : FnScope ["self", "other"] ["self", "other"] (defScope s_Ratio_sub) := ⟨rfl, rfl, rfl, by decide +kernel, rfl, by decide +kernel, by decide +kernel⟩
theorem ok_Ratio_sub (F : FnP K "__sub__" "Ratio.__sub__" s_Ratio_sub [] f fd) (T : RatC K C) (c_is_whole : Callee P w K mg base 1 "is_whole" ["value"] (spWhole K C)) (m_isinstance : mg "isinstance" = none) (g_Ratio : mg "Ratio" = some (.ref C))
    (k_Ratio2 : Maker P w K mg base 2 "Ratio" C ["self", "top", "bottom"] [] (spRInit C CZ)) :
    FnX P w K mg base 5 f fd ["self", "other"] (spBin C (fun q r => q - r)) := by
  refine F.ok sc_Ratio_sub (fun vs H Q E h => ?_) (fun cdv A outer s H vs Q E hr h => ?_)
  · obtain ⟨a, y, q, r, rfl, _⟩ := h
    rfl
  · obtain ⟨a, y, q, r, rfl, ⟨dx, ha⟩, hn, zq, zr, k⟩ := h
    refine ⟨_, (pss_cons (ps_if (pt_val (pe_callB call_isi (by rfl) m_isinstance (by decide +kernel) (pa_cons (pv 1) (pa_cons (pe_glob (v := .ref C) (by rfl) g_Ratio rfl) pa_nil)))) (pss_one (ps_ret (pe_maker k_Ratio2 (hr.mono (by decide)) passL (pa_cons (pe_op op_sub (pe_op op_mulW (pe_fld (pv 0) rfl) (pe_fld (pv 1) rfl)) (pe_op op_mulW (pe_fld (pv 1) rfl) (pe_fld (pv 0) rfl))) (pa_cons (pe_op op_mulW (pe_fld (pv 0) rfl) (pe_fld (pv 1) rfl)) pa_nil))))) pss_nil)
      (pss_cons (ps_if (pt_val (pe_callee c_is_whole (hr.mono (by decide)) (pa_cons (pv 1) pa_nil))) (pss_one (ps_ret (pe_maker k_Ratio2 (hr.mono (by decide)) passL (pa_cons (pe_op op_sub (pe_fld (pv 0) rfl) (pe_op op_mulW (pv 1) (pe_fld (pv 0) rfl))) (pa_cons (pe_fld (pv 0) rfl) pa_nil))))) pss_nil)
      (pss_one ps_never))), ?_⟩
    rcases hn with ⟨i, rfl, rfl⟩ | ⟨b, rfl, hr'⟩
    · refine ⟨_, rfl, .int i, .ref C, .type "int", _, false, rfl, .own C, .base (.int i), T.ki, false, rfl, iteF ?_⟩
      refine ⟨_, rfl, _, _, _, rfl, TyN.int T.ki, true, rfl, iteT ?_⟩
      have zi : i.natAbs < 2 ^ 4000 := by have := zr.1; rwa [Rat.num_intCast] at this
      refine ⟨_, rfl, a, C, dx, _, _, rfl, ha, T.cl, T.nT, ratF_top, _, rfl, _, rfl, a, C, dx, _, _, rfl, ha, T.cl, T.nB, ratF_bot, _, _, rfl, rfl, sz_mul zi (sz_den zq) (by decide) (by decide), _, _, rfl, rfl, ?_⟩
      refine ⟨_, rfl, a, C, dx, _, _, rfl, ha, T.cl, T.nB, ratF_bot, ?_⟩
      refine fun p dp hp hdp ne => mk_rat (by have := den_pos q; omega) (Nat.lt_of_lt_of_le (sz_den zq) (Nat.pow_le_pow_right (by decide) (by decide))) (fun p H' n e h => k p H' n e ?_) p dp hp hdp ne
      rw [sub_int] at h
      exact h
    · refine ⟨_, rfl, .ref b, .ref C, .ref C, _, true, rfl, .own C, T.ty hr', T.cc, true, rfl, iteT ?_⟩
      obtain ⟨dy, hb⟩ := hr'
      refine ⟨_, rfl, a, C, dx, _, _, rfl, ha, T.cl, T.nT, ratF_top, _, rfl, b, C, dy, _, _, rfl, hb, T.cl, T.nB, ratF_bot, _, _, rfl, rfl, sz_mul zq.1 (sz_den zr) (by decide) (by decide), ?_⟩
      refine ⟨_, rfl, b, C, dy, _, _, rfl, hb, T.cl, T.nT, ratF_top, _, rfl, a, C, dx, _, _, rfl, ha, T.cl, T.nB, ratF_bot, _, _, rfl, rfl, sz_mul zr.1 (sz_den zq) (by decide) (by decide), _, _, rfl, rfl, ?_⟩
      refine ⟨_, rfl, a, C, dx, _, _, rfl, ha, T.cl, T.nB, ratF_bot, _, rfl, b, C, dy, _, _, rfl, hb, T.cl, T.nB, ratF_bot, _, _, rfl, rfl, sz_mul (sz_den zq) (sz_den zr) (by decide) (by decide), ?_⟩
      refine fun p dp hp hdp ne => mk_rat (den_mul_ne q r) (den_mul_lt zq zr) (fun p H' n e h => k p H' n e ?_) p dp hp hdp ne
      rw [sub_eq] at h
      exact h
abbrev s_Ratio_mul : Stmt := inClass (top 11) 5
theorem sc_Ratio_mul : FnScope ["self", "other"] ["self", "other"] (defScope s_Ratio_mul) := ⟨rfl, rfl, rfl, by decide +kernel, rfl, by decide +kernel, by decide +kernel⟩
theorem ok_Ratio_mul (F : FnP K "__mul__" "Ratio.__mul__" s_Ratio_mul [] f fd) (T : RatC K C) (c_is_whole : Callee P w K mg base 1 "is_whole" ["value"] (spWhole K C)) (m_isinstance : mg "isinstance" = none) (g_Ratio : mg "Ratio" = some (.ref C))
    (k_Ratio2 : Maker P w K mg base 2 "Ratio" C ["self", "top", "bottom"] [] (spRInit C CZ)) :
    FnX P w K mg base 5 f fd ["self", "other"] (spBin C (fun q r => q * r)) := by
  refine F.ok sc_Ratio_mul (fun vs H Q E h => ?_) (fun cdv A outer s H vs Q E hr h => ?_)
  · obtain ⟨a, y, q, r, rfl, _⟩ := h
    rfl
  · obtain ⟨a, y, q, r, rfl, ⟨dx, ha⟩, hn, zq, zr, k⟩ := h
    refine ⟨_, (pss_cons (ps_if (pt_val (pe_callB call_isi (by rfl) m_isinstance (by decide +kernel) (pa_cons (pv 1) (pa_cons (pe_glob (v := .ref C) (by rfl) g_Ratio rfl) pa_nil)))) (pss_one (ps_ret (pe_maker k_Ratio2 (hr.mono (by decide)) passL (pa_cons (pe_op op_mulW (pe_fld (pv 0) rfl) (pe_fld (pv 1) rfl)) (pa_cons (pe_op op_mulW (pe_fld (pv 0) rfl) (pe_fld (pv 1) rfl)) pa_nil))))) pss_nil)
      (pss_cons (ps_if (pt_val (pe_callee c_is_whole (hr.mono (by decide)) (pa_cons (pv 1) pa_nil))) (pss_one (ps_ret (pe_maker k_Ratio2 (hr.mono (by decide)) passL (pa_cons (pe_op op_mulW (pe_fld (pv 0) rfl) (pv 1)) (pa_cons (pe_fld (pv 0) rfl) pa_nil))))) pss_nil)
      (pss_one ps_never))), ?_⟩
    rcases hn with ⟨i, rfl, rfl⟩ | ⟨b, rfl, hr'⟩
    · refine ⟨_, rfl, .int i, .ref C, .type "int", _, false, rfl, .own C, .base (.int i), T.ki, false, rfl, iteF ?_⟩
      refine ⟨_, rfl, _, _, _, rfl, TyN.int T.ki, true, rfl, iteT ?_⟩
      have zi : i.natAbs < 2 ^ 4000 := by have := zr.1; rwa [Rat.num_intCast] at this
      refine ⟨_, rfl, a, C, dx, _, _, rfl, ha, T.cl, T.nT, ratF_top, _, rfl, _, _, rfl, rfl, sz_mul zq.1 zi (by decide) (by decide), ?_⟩
      refine ⟨_, rfl, a, C, dx, _, _, rfl, ha, T.cl, T.nB, ratF_bot, ?_⟩
      refine fun p dp hp hdp ne => mk_rat (by have := den_pos q; omega) (Nat.lt_of_lt_of_le (sz_den zq) (Nat.pow_le_pow_right (by decide) (by decide))) (fun p H' n e h => k p H' n e ?_) p dp hp hdp ne
      rw [mul_int] at h
      exact h
    · refine ⟨_, rfl, .ref b, .ref C, .ref C, _, true, rfl, .own C, T.ty hr', T.cc, true, rfl, iteT ?_⟩
      obtain ⟨dy, hb⟩ := hr'
      refine ⟨_, rfl, a, C, dx, _, _, rfl, ha, T.cl, T.nT, ratF_top, _, rfl, b, C, dy, _, _, rfl, hb, T.cl, T.nT, ratF_top, _, _, rfl, rfl, sz_mul zq.1 zr.1 (by decide) (by decide), ?_⟩
      refine ⟨_, rfl, a, C, dx, _, _, rfl, ha, T.cl, T.nB, ratF_bot, _, rfl, b, C, dy, _, _, rfl, hb, T.cl, T.nB, ratF_bot, _, _, rfl, rfl, sz_mul (sz_den zq) (sz_den zr) (by decide) (by decide), ?_⟩
      refine fun p dp hp hdp ne => mk_rat (den_mul_ne q r) (den_mul_lt zq zr) (fun p H' n e h => k p H' n e ?_) p dp hp hdp ne
      rw [mul_eq] at h
      exact h
abbrev s_Ratio_neg : Stmt := inClass (top 11) 6
theorem sc_Ratio_neg : FnScope ["self"] ["self"] (defScope s_Ratio_neg) := ⟨rfl, rfl, rfl, by decide +kernel, rfl, by decide +kernel, by decide +kernel⟩
def spNeg (C : Addr) : Sp := fun vs H Q _ => ∃ a q, vs = [.ref a] ∧ RatAt C H a q ∧ Sz 9000 q ∧ RetRat C H Q (-q)
theorem ok_Ratio_neg (F : FnP K "__neg__" "Ratio.__neg__" s_Ratio_neg [] f fd) (T : RatC K C) (k_Ratio2 : Maker P w K mg base 2 "Ratio" C ["self", "top", "bottom"] [] (spRInit C CZ)) : FnX P w K mg base 5 f fd ["self"] (spNeg C) := by
  refine F.ok sc_Ratio_neg (fun vs H Q E h => ?_) (fun cdv A outer s H vs Q E hr h => ?_)
  · obtain ⟨a, q, rfl, _⟩ := h
    rfl
  · obtain ⟨a, q, rfl, ⟨dx, ha⟩, z, k⟩ := h
    refine ⟨_, (pss_one (ps_ret (pe_maker k_Ratio2 (hr.mono (by decide)) passL (pa_cons (pe_un un_neg (pe_fld (pv 0) rfl)) (pa_cons (pe_fld (pv 0) rfl) pa_nil))))), ?_⟩
    refine ⟨_, rfl, a, C, dx, _, _, rfl, ha, T.cl, T.nT, ratF_top, _, rfl, _, rfl, a, C, dx, _, _, rfl, ha, T.cl, T.nB, ratF_bot, ?_⟩
    refine fun p dp hp hdp ne => mk_rat (by have := den_pos q; omega) (sz_den z) (fun p H' n e h => k p H' n e ?_) p dp hp hdp ne
    rw [neg_eq] at h
    exact h
abbrev s_Ratio_below : Stmt := inClass (top 11) 8
theorem sc_Ratio_below : FnScope ["self", "number"] ["self", "number"] (defScope s_Ratio_below) := ⟨rfl, rfl, rfl, by decide +kernel, rfl, by decide +kernel, by decide +kernel⟩
def spBelow (C : Addr) : Sp := fun vs H Q _ => ∃ a y q r, vs = [.ref a, y] ∧ RatAt C H a q ∧ NumAt C H y r ∧ Sz 9000 q ∧ Sz 9000 r ∧ ∀ H', Ex H H' → Q (.bl (decide (q < r))) H'
theorem lt_dec (q r : Rat) : decide (q.num * r.den < r.num * q.den) = decide (q < r) := by
  rw [decide_eq_decide]
  exact (Rat.lt_iff q r).symm
theorem lt_dec_int (q : Rat) (i : Int) : decide (q.num < i * q.den) = decide (q < (i : Rat)) := by
  have h := lt_dec q (i : Rat)
  rwa [Rat.den_intCast, Rat.num_intCast, Int.natCast_one, Int.mul_one] at h
theorem ok_Ratio_below (F : FnP K "below" "Ratio.below" s_Ratio_below [] f fd) (T : RatC K C) (c_is_whole : Callee P w K mg base 1 "is_whole" ["value"] (spWhole K C)) (m_isinstance : mg "isinstance" = none) (g_Ratio : mg "Ratio" = some (.ref C)) :
    FnX P w K mg base 2 f fd ["self", "number"] (spBelow C) := by
  refine F.ok sc_Ratio_below (fun vs H Q E h => ?_) (fun cdv A outer s H vs Q E hr h => ?_)
  · obtain ⟨a, y, q, r, rfl, _⟩ := h
    rfl
  · obtain ⟨a, y, q, r, rfl, ⟨dx, ha⟩, hn, zq, zr, k⟩ := h
    refine ⟨_, (pss_cons (ps_if (pt_val (pe_callB call_isi (by rfl) m_isinstance (by decide +kernel) (pa_cons (pv 1) (pa_cons (pe_glob (v := .ref C) (by rfl) g_Ratio rfl) pa_nil)))) (pss_one (ps_ret (pe_cmpR op_lt (pe_op op_mulW (pe_fld (pv 0) rfl) (pe_fld (pv 1) rfl)) (pe_op op_mulW (pe_fld (pv 1) rfl) (pe_fld (pv 0) rfl)) (nomark _)))) pss_nil)
      (pss_cons (ps_if (pt_not (pt_val (pe_callee c_is_whole (hr.mono (by decide)) (pa_cons (pv 1) pa_nil)))) (pss_one ps_never) pss_nil)
      (pss_one (ps_ret (pe_cmpR op_lt (pe_fld (pv 0) rfl) (pe_op op_mulW (pv 1) (pe_fld (pv 0) rfl)) (nomark _)))))), ?_⟩
    have z := k H Ex.rfl
    rcases hn with ⟨i, rfl, rfl⟩ | ⟨b, rfl, hr'⟩
    · refine ⟨_, rfl, .int i, .ref C, .type "int", _, false, rfl, .own C, .base (.int i), T.ki, false, rfl, iteF ?_⟩
      refine ⟨_, rfl, _, _, _, rfl, TyN.int T.ki, true, rfl, iteF ?_⟩
      have zi : i.natAbs < 2 ^ 9000 := by have := zr.1; rwa [Rat.num_intCast] at this
      refine ⟨_, rfl, a, C, dx, _, _, rfl, ha, T.cl, T.nT, ratF_top, _, rfl, _, rfl, a, C, dx, _, _, rfl, ha, T.cl, T.nB, ratF_bot, _, _, rfl, rfl, sz_mul zi (sz_den zq) (by decide) (by decide), _, _, rfl, rfl, ?_⟩
      rw [← lt_dec_int] at z
      exact z
    · refine ⟨_, rfl, .ref b, .ref C, .ref C, _, true, rfl, .own C, T.ty hr', T.cc, true, rfl, iteT ?_⟩
      obtain ⟨dy, hb⟩ := hr'
      refine ⟨_, rfl, a, C, dx, _, _, rfl, ha, T.cl, T.nT, ratF_top, _, rfl, b, C, dy, _, _, rfl, hb, T.cl, T.nB, ratF_bot, _, _, rfl, rfl, sz_mul zq.1 (sz_den zr) (by decide) (by decide), ?_⟩
      refine ⟨_, rfl, b, C, dy, _, _, rfl, hb, T.cl, T.nT, ratF_top, _, rfl, a, C, dx, _, _, rfl, ha, T.cl, T.nB, ratF_bot, _, _, rfl, rfl, sz_mul zr.1 (sz_den zq) (by decide) (by decide), _, _, rfl, rfl, ?_⟩
      rw [← lt_dec] at z
      exact z
abbrev s_Ratio_eq : Stmt := inClass (top 11) 7
theorem sc_Ratio_eq : FnScope ["self", "other"] ["self", "other"] (defScope s_Ratio_eq) := ⟨rfl, rfl, rfl, by decide +kernel, rfl, by decide +kernel, by decide +kernel⟩
def spEqR (K : Fg) (C : Addr) : Sp := fun vs H Q _ => ∃ a y q, vs = [.ref a, y] ∧ RatAt C H a q ∧ ((∃ r, NumAt C H y r ∧ Q (.bl (decide (q = r))) H) ∨ (TyN K C H y false false ∧ Q (.bl false) H))
theorem eq_dec (q r : Rat) : (decide (V.int q.num = V.int r.num) && decide (V.int (q.den : Int) = V.int (r.den : Int))) = decide (q = r) := by
  rw [← Bool.decide_and, decide_eq_decide]
  constructor
  · rintro ⟨h1, h2⟩
    have h3 := V.int.inj h2
    exact Rat.ext (V.int.inj h1) (by omega)
  · rintro rfl
    exact ⟨rfl, rfl⟩
theorem eq_int (q : Rat) (i : Int) : (decide (V.int (q.den : Int) = V.int 1) && decide (V.int q.num = V.int i)) = decide (q = (i : Rat)) := by
  rw [← Bool.decide_and, decide_eq_decide]
  constructor
  · rintro ⟨h1, h2⟩
    have h3 := V.int.inj h1
    exact Rat.ext (by rw [Rat.num_intCast]; exact V.int.inj h2) (by rw [Rat.den_intCast]; omega)
  · rintro rfl
    rw [Rat.num_intCast, Rat.den_intCast]
    exact ⟨rfl, rfl⟩
theorem ok_Ratio_eq (F : FnP K "__eq__" "Ratio.__eq__" s_Ratio_eq [] f fd) (T : RatC K C) (c_is_whole : Callee P w K mg base 1 "is_whole" ["value"] (spWhole K C)) (m_isinstance : mg "isinstance" = none) (g_Ratio : mg "Ratio" = some (.ref C)) : FnX P w K mg base 3 f fd ["self", "other"] (spEqR K C) := by
  refine F.ok sc_Ratio_eq (fun vs H Q E h => ?_) (fun cdv A outer s H vs Q E hr h => ?_)
  · obtain ⟨a, y, q, rfl, _⟩ := h
    rfl
  · obtain ⟨a, y, q, rfl, ⟨dx, ha⟩, k⟩ := h
    refine ⟨_, (pss_cons (ps_if (pt_val (pe_callB call_isi (by rfl) m_isinstance (by decide +kernel) (pa_cons (pv 1) (pa_cons (pe_glob (v := .ref C) (by rfl) g_Ratio rfl) pa_nil)))) (pss_one (ps_ret (pe_and (pe_cmpR op_eq (pe_fld (pv 0) rfl) (pe_fld (pv 1) rfl) (nomark _)) (pe_one (pe_cmpR op_eq (pe_fld (pv 0) rfl) (pe_fld (pv 1) rfl) (nomark _)))))) pss_nil)
      (pss_one (ps_ret (pe_and (pe_callee c_is_whole (hr.mono (by decide)) (pa_cons (pv 1) pa_nil)) (pe_and (pe_cmpR op_eq (pe_fld (pv 0) rfl) pe_int (nomark _)) (pe_one (pe_cmpR op_eq (pe_fld (pv 0) rfl) (pv 1) (nomark _)))))))), ?_⟩
    rcases k with ⟨r, hn, k⟩ | ⟨ty, k⟩
    · rcases hn with ⟨i, rfl, rfl⟩ | ⟨b, rfl, hr'⟩
      · refine ⟨_, rfl, .int i, .ref C, .type "int", _, false, rfl, .own C, .base (.int i), T.ki, false, rfl, iteF ?_⟩
        refine ⟨_, rfl, _, _, _, rfl, TyN.int T.ki, true, rfl, iteT ?_⟩
        refine ⟨_, rfl, a, C, dx, _, _, rfl, ha, T.cl, T.nB, ratF_bot, rfl, _, rfl, ?_⟩
        have z := eq_int q i
        cases e : decide (V.int (q.den : Int) = V.int 1) with
        | false =>
          rw [e, Bool.false_and] at z
          rw [← z] at k
          exact iteF k
        | true =>
          rw [e, Bool.true_and] at z
          rw [← z] at k
          exact iteT ⟨_, rfl, a, C, dx, _, _, rfl, ha, T.cl, T.nT, ratF_top, _, rfl, rfl, k⟩
      · refine ⟨_, rfl, .ref b, .ref C, .ref C, _, true, rfl, .own C, T.ty hr', T.cc, true, rfl, iteT ?_⟩
        obtain ⟨dy, hb⟩ := hr'
        refine ⟨_, rfl, a, C, dx, _, _, rfl, ha, T.cl, T.nT, ratF_top, _, rfl, b, C, dy, _, _, rfl, hb, T.cl, T.nT, ratF_top, rfl, _, rfl, ?_⟩
        have z := eq_dec q r
        cases e : decide (V.int q.num = V.int r.num) with
        | false =>
          rw [e, Bool.false_and] at z
          rw [← z] at k
          exact iteF k
        | true =>
          rw [e, Bool.true_and] at z
          rw [← z] at k
          exact iteT ⟨_, rfl, a, C, dx, _, _, rfl, ha, T.cl, T.nB, ratF_bot, _, rfl, b, C, dy, _, _, rfl, hb, T.cl, T.nB, ratF_bot, rfl, k⟩
    · obtain ⟨t, bi, tx, h1, e, h3⟩ := ty.ex
      refine ⟨_, rfl, y, .ref C, t, _, false, rfl, .own C, tx, h3, false, rfl, iteF ?_⟩
      exact ⟨_, rfl, _, _, _, rfl, ty, false, rfl, iteF k⟩
theorem ratF_no {m : Str} {q : Rat} (h1 : (m == ("_top" : Str)) = false) (h2 : (m == ("_bottom" : Str)) = false) : (ratF q).lookup m = none := by unfold ratF; simp [List.lookup, h1, h2]
/-! lists of numbers -/
abbrev s_is_list : Stmt := top 8
theorem sc_is_list : FnScope ["value"] ["value"] (defScope s_is_list) := ⟨rfl, rfl, rfl, by decide +kernel, rfl, by decide +kernel, by decide +kernel⟩
abbrev s__check_numbers : Stmt := top 20
theorem sc__check_numbers : FnScope ["numbers", "number"] ["numbers"] (defScope s__check_numbers) := ⟨rfl, rfl, rfl, by decide +kernel, rfl, by decide +kernel, by decide +kernel⟩
abbrev s__check_some_numbers : Stmt := top 21
theorem sc__check_some_numbers : FnScope ["numbers"] ["numbers"] (defScope s__check_some_numbers) := ⟨rfl, rfl, rfl, by decide +kernel, rfl, by decide +kernel, by decide +kernel⟩
def spIsList (K : Fg) : Sp := fun vs H Q _ => ∃ l t b, vs = [.ref l] ∧ TyX K H (.ref l) t ∧ PySem.W.kitAny K t [.type "list", .type "tuple"] = some b ∧ ∀ H', Ex H H' → Q (.bl b) H'
theorem seqTy {H : Hp} {l : Addr} {xs : List V} (h : SqX K H l xs) : ∃ t, TyX K H (.ref l) t ∧ PySem.W.kitAny K t [.type "list", .type "tuple"] = some true := by
  have e1 : PySem.W.kitAny K (.type "list") [.type "list", .type "tuple"] = some true := by rfl
  have e2 : PySem.W.kitAny K (.type "tuple") [.type "list", .type "tuple"] = some true := by
    refine kitAny_cons (b := false) (kit_ty (by decide +kernel)) (fun _ => kitAny_cons (b := true) (kit_ty (by decide +kernel)) (fun z => nomatch z) (fun _ => rfl)) (fun z => nomatch z)
  rcases h with h | h
  · rcases h with (h | ⟨o, h⟩) | ⟨o, its, n, h, hc, _⟩
    · exact ⟨_, .base (.lst h), e1⟩
    · exact ⟨_, .base (.frz h), e1⟩
    · exact ⟨_, .kList h hc, e1⟩
  · rcases h with (h | ⟨o, h⟩) | ⟨o, its, n, h, hc, _⟩
    · exact ⟨_, .base (.tup h), e2⟩
    · exact ⟨_, .fTuple h, e2⟩
    · exact ⟨_, .kTuple h hc, e2⟩
theorem ok_is_list (F : FnP K "is_list" "is_list" s_is_list [] f fd) (m_isinstance : mg "isinstance" = none) (m_list : mg "list" = none) (m_tuple : mg "tuple" = none) : FnX P w K mg base 1 f fd ["value"] (spIsList K) := by
  refine F.ok sc_is_list (fun vs H Q E h => ?_) (fun cdv A outer s H vs Q E hr h => ?_)
  · obtain ⟨l, t, b, rfl, _⟩ := h
    rfl
  · obtain ⟨l, t, b, rfl, ty, hk, k⟩ := h
    refine ⟨_, (pss_one (ps_ret (pe_callB call_isiT (by rfl) m_isinstance (by decide +kernel) (pa_cons (pv 0) (pa_cons (pe_tup (pa_cons (pe_bltn (v := .ty "list") (by rfl) m_list (by decide +kernel) rfl) (pa_cons (pe_bltn (v := .ty "tuple") (by rfl) m_tuple (by decide +kernel) rfl) pa_nil))) pa_nil))))), ?_⟩
    exact ⟨_, rfl, (by show 2 ≤ sizeLine; decide), fun p hp => ⟨_, p, _, t, _, b, rfl, upd_same, .cons (.ty _) (.cons (.ty _) .nil), TyX_new ty hp, hk, k _ (Ex.new hp)⟩⟩
def spCheck (K : Fg) (C : Addr) : Sp := fun vs H Q _ => ∃ l xs qs, vs = [.ref l] ∧ SqX K H l xs ∧ NumsAt C H xs qs ∧ xs.length ≤ 6000 ∧ ∀ H', Ex H H' → Q .non H'
def spCheckSome (K : Fg) (C : Addr) : Sp := fun vs H Q _ => ∃ l xs qs, vs = [.ref l] ∧ SqX K H l xs ∧ NumsAt C H xs qs ∧ xs.length ≤ 6000 ∧ 0 < xs.length ∧ ∀ H', Ex H H' → Q .non H'
theorem ok_check_numbers (F : FnP K "_check_numbers" "_check_numbers" s__check_numbers [] f fd) (T : RatC K C) (c_is_list : Callee P w K mg base 1 "is_list" ["value"] (spIsList K)) (c_is_number : Callee P w K mg base 2 "is_number" ["value"] (spNumber K C)) (m_all : mg "all" = none) :
    FnX P w K mg base 4 f fd ["numbers"] (spCheck K C) := by
  refine F.ok sc__check_numbers (fun vs H Q E h => ?_) (fun cdv A outer s H vs Q E hr h => ?_)
  · obtain ⟨l, xs, qs, rfl, _⟩ := h
    rfl
  · obtain ⟨l, xs, qs, rfl, hx, hn, hz, k⟩ := h
    refine ⟨_, (pss_one (ps_if (PW.pt (pw_or (pt_not (pt_val (pe_callee c_is_list (hr.mono (by decide)) (pa_cons (pv 0) pa_nil)))) (pw_or1 (pt_not (pt_val (pe_callB (cr_all rfl) (by rfl) m_all (by decide +kernel) (pa_cons (pe_lc (own := [("number", 1)]) (g := gName 1) (by rfl) sc__check_numbers.nd (pi_either (pi_list (pv 0)) (pi_tup (pv 0))) (blkOk_by (own := [("number", 1)]) (N := ["numbers", "number"]) (sc := defScope s__check_numbers) (by decide +kernel)) (fun _ _ _ _ _ => (pg_name (i := 1) sc__check_numbers.nd rfl (Or.inl rfl))) (fun _ _ _ _ _ => pts_nil) (fun _ _ _ _ _ => (pe_callee c_is_number (hr.mono (by decide)) (pa_cons (pv 1) pa_nil)))) pa_nil))))))) (pss_one ps_never) pss_nil)), ?_⟩
    obtain ⟨t, ty, hk⟩ := seqTy hx
    refine ⟨_, rfl, l, t, true, rfl, ty, hk, fun H1 e1 => ⟨true, rfl, iteF ?_⟩⟩
    have hx1 := hx.ex e1
    have hn1 := hn.ex e1
    have fin : ∀ D bs H2, Ex H1 H2 → H2 D = some (.lst bs) → bs.length = xs.length → (∀ (i : Nat) v, bs[i]? = some v → v = .bl true) → ∃ b, (∃ (a : Addr) (bs' : List Bool), [V.ref D] = [V.ref a] ∧ SqL K H2 a (bs'.map V.bl) ∧ b = bs'.all id) ∧ b = true := fun D bs H2 e2 hb hl hv => by
      have eb : bs = (List.replicate bs.length true).map V.bl := by
        rw [List.map_replicate]
        exact List.eq_replicate_iff.mpr ⟨rfl, fun v hm => by
          obtain ⟨i, hi⟩ := List.getElem?_of_mem hm
          exact hv i v hi⟩
      exact ⟨true, ⟨D, List.replicate bs.length true, rfl, by rw [← eb]; exact SqL.of hb, by simp⟩, rfl⟩
    have step : ∀ i (x : V) H', Ex H1 H' → xs[i]? = some x → ∀ Q : VK, (∀ v H2, Ex H' H2 → v = V.bl true → Q v H2) → tCall (spNumber K C) [] E0 (tCons (tVar 1) tNil) [some (.ref l), some x] H' Q := fun i x H' e hi Q q => by
      obtain ⟨r, _, hr⟩ := (hn1.ex e).at hi
      obtain ⟨wh, rt, ty, et⟩ := T.num hr
      exact ⟨_, rfl, _, _, _, rfl, ty, by rw [et]; exact q _ _ Ex.rfl rfl⟩
    rcases hx1 with hx1 | hx1
    · refine .inl ⟨_, rfl, l, rfl, ⟨xs, hx1⟩, fun D hD => lc_rel (fun _ v _ => v = .bl true) (fun _ _ _ _ _ h => h) (fun _ _ _ _ _ _ h => h) hD hx1 (by omega) (fun _ => rfl) step fun bs H2 e2 hb hl hv => ?_⟩
      obtain ⟨b, ⟨a, bs', ea, hs, eb⟩, ht⟩ := fin D bs H2 e2 hb hl hv
      refine ⟨a, bs', ea, hs, b, congrArg V.bl eb.symm, ?_⟩
      subst ht
      exact iteF (k H2 (e1.trans e2))
    · refine .inr ⟨_, rfl, l, rfl, ⟨xs, hx1⟩, fun D hD => lc_relT (fun _ v _ => v = .bl true) (fun _ _ _ _ _ h => h) (fun _ _ _ _ _ _ h => h) hD hx1 (by omega) (fun _ => rfl) step fun bs H2 e2 hb hl hv => ?_⟩
      obtain ⟨b, ⟨a, bs', ea, hs, eb⟩, ht⟩ := fin D bs H2 e2 hb hl hv
      refine ⟨a, bs', ea, hs, b, congrArg V.bl eb.symm, ?_⟩
      subst ht
      exact iteF (k H2 (e1.trans e2))
theorem seqLen {H : Hp} {l : Addr} {xs : List V} (h : SqX K H l xs) : LenV K (.ref l) H xs.length := h.elim (fun h => .inl ⟨_, h, rfl⟩) fun h => .inr ⟨_, h, rfl⟩
theorem ok_check_some (F : FnP K "_check_some_numbers" "_check_some_numbers" s__check_some_numbers [] f fd) (c__check_numbers : Callee P w K mg base 4 "_check_numbers" ["numbers"] (spCheck K C)) (m_len : mg "len" = none) :
    FnX P w K mg base 5 f fd ["numbers"] (spCheckSome K C) := by
  refine F.ok sc__check_some_numbers (fun vs H Q E h => ?_) (fun cdv A outer s H vs Q E hr h => ?_)
  · obtain ⟨l, xs, qs, rfl, _⟩ := h
    rfl
  · obtain ⟨l, xs, qs, rfl, hx, hn, hz, h0, k⟩ := h
    refine ⟨_, (pss_cons (ps_expr (pe_callee c__check_numbers (hr.mono (by decide)) (pa_cons (pv 0) pa_nil)))
      (pss_one (ps_if (pt_cmpR op_eq (pe_callB call_len (by rfl) m_len (by decide +kernel) (pa_cons (pv 0) pa_nil)) pe_int (nomark _)) (pss_one ps_never) pss_nil))), ?_⟩
    refine ⟨_, rfl, l, xs, qs, rfl, hx, hn, hz, fun H1 e1 => ?_⟩
    refine ⟨_, rfl, .ref l, xs.length, rfl, seqLen (hx.ex e1), rfl, _, rfl, ite2 (fun e => ?_) fun _ => k H1 e1⟩
    have z := V.int.inj (of_decide_eq_true e)
    omega
/-! total -/
abbrev s_common_bottom : Stmt := top 15
theorem sc_common_bottom : FnScope ["numbers", "bottom", "number"] ["numbers"] (defScope s_common_bottom) := ⟨rfl, rfl, rfl, by decide +kernel, rfl, by decide +kernel, by decide +kernel⟩
abbrev s_total : Stmt := top 16
theorem sc_total : FnScope ["numbers", "whole", "quotients", "number", "bottom", "part"] ["numbers"] (defScope s_total) := ⟨rfl, rfl, rfl, by decide +kernel, rfl, by decide +kernel, by decide +kernel⟩
def spTotal (K : Fg) (C : Addr) : Sp := fun vs H Q _ => ∃ l xs qs n, vs = [.ref l] ∧ SqX K H l xs ∧ NumsAt C H xs qs ∧ (∀ q ∈ qs, Sz n q) ∧ n * qs.length ≤ 5900 ∧ n ≤ 5900 ∧ qs.length ≤ 5900 ∧ RetRat C H Q qs.sum
/-- the list of the quotients -/
def RatsAt (C : Addr) (qs : List Rat) : Nat → V → Hp → Prop := fun i v H => ∃ a q, v = .ref a ∧ qs[i]? = some q ∧ RatAt C H a q
theorem rats_stab {qs : List Rat} : Stab (RatsAt C qs) := fun _ _ _ _ e ⟨a, q, ev, hq, r⟩ => ⟨a, q, ev, hq, r.ex e⟩
theorem rats_st {qs : List Rat} {D : Addr} : ∀ i v H acc acc0, H D = some (.lst acc0) → RatsAt C qs i v H → RatsAt C qs i v (upd H D (.lst acc)) := fun _ _ _ _ _ h ⟨a, q, ev, hq, r⟩ => ⟨a, q, ev, hq, r.st h⟩
theorem take_more {α : Type} {l : List α} {i : Nat} {x : α} (h : l[i]? = some x) : l.take (i + 1) = l.take i ++ [x] := by rw [List.take_add_one, h]; rfl
theorem vals_int {bs : List V} {ns : List Int} (hl : bs.length = ns.length) (h : ∀ (i : Nat) v n, bs[i]? = some v → ns[i]? = some n → v = .int n) : bs = ns.map V.int := by
  refine List.ext_getElem? fun i => ?_
  rw [List.getElem?_map]
  cases e : bs[i]? with
  | none =>
    have : ns.length ≤ i := by rw [← hl]; exact List.getElem?_eq_none_iff.mp e
    rw [List.getElem?_eq_none this]
    rfl
  | some v =>
    have li : i < ns.length := by rw [← hl]; exact (List.getElem?_eq_some_iff.mp e).1
    rw [List.getElem?_eq_getElem li, h i v _ e (List.getElem?_eq_getElem li)]
    rfl
theorem lcm_lt {qs : List Rat} {n : Nat} (hq : ∀ q ∈ qs, Sz n q) (z : n * qs.length ≤ 5900) (i : Nat) : lcmL (qs.take i) < 2 ^ 6000 := by
  have h1 := lcmL_le (n := n) (qs := qs.take i) fun q hm => (hq q (List.mem_of_mem_take hm)).2
  have h2 : n * (qs.take i).length ≤ 5900 := Nat.le_trans (Nat.mul_le_mul_left n (by rw [List.length_take]; omega)) z
  exact Nat.lt_of_le_of_lt h1 (Nat.pow_lt_pow_right (by decide) (by omega))
/-- the least common bottom -/
def spCommon (K : Fg) (C : Addr) : Sp := fun vs H Q _ => ∃ l xs qs n, vs = [.ref l] ∧ SqX K H l xs ∧ NumsAt C H xs qs ∧ (∀ q ∈ qs, Sz n q) ∧ n * qs.length ≤ 5900 ∧ n ≤ 5900 ∧ qs.length ≤ 5900 ∧ ∀ H', Ex H H' → Q (.int ((lcmL qs : Nat) : Int)) H'
theorem lcm_one (l : Nat) : Nat.lcm l 1 = l := Nat.lcm_one_right l
theorem ok_common_bottom (F : FnP K "common_bottom" "common_bottom" s_common_bottom [] f fd) (T : RatC K C) (m_isinstance : mg "isinstance" = none) (g_Ratio : mg "Ratio" = some (.ref C)) (g_lcm : mg "lcm" = some (.builtin "math.lcm")) :
    FnX P w K mg base 5 f fd ["numbers"] (spCommon K C) := by
  refine F.ok sc_common_bottom (fun vs H Q E h => ?_) (fun cdv A outer s H vs Q E hr h => ?_)
  · obtain ⟨l, xs, qs, n, rfl, _⟩ := h
    rfl
  · obtain ⟨l, xs, qs, n, rfl, hx, hn, hq, z1, z2, z3, k⟩ := h
    refine ⟨_, (pss_cons (ps_asg pe_int (pg_name (i := 1) sc_common_bottom.nd rfl (.inl rfl)))
      (pss_cons (ps_for (passes_of rfl) rfl (pi_either (pi_list (pv 0)) (pi_tup (pv 0))) (pg_name (i := 2) sc_common_bottom.nd rfl (.inl rfl)) (pss_one (ps_if (pt_val (pe_callB call_isi (by rfl) m_isinstance (by decide +kernel) (pa_cons (pv 2) (pa_cons (pe_glob (v := .ref C) (by rfl) g_Ratio rfl) pa_nil)))) (pss_one (ps_asg (pe_callBfun call_lcm (by rfl) g_lcm (pa_cons (pv 1) (pa_cons (pe_fld (pv 2) rfl) pa_nil))) (pg_name (i := 1) sc_common_bottom.nd rfl (.inl rfl)))) pss_nil)))
      (pss_one (ps_ret (pv 1))))), ?_⟩
    have hLd := lcm_lt hq z1
    have hqn : ∀ {q}, q ∈ qs → Sz 6000 q := fun h => (hq _ h).mono (by omega)
    refine for_seq (a := l) (xs := xs) rfl hx (fun i σ' H' => Ex H H' ∧ ∃ v, σ' = [some (.ref l), some (.int ((lcmL (qs.take i) : Nat) : Int)), v]) ⟨Ex.rfl, none, rfl⟩ (fun _ _ _ q => q.1) (fun i x σ' H' hi q => ?_) fun σ' H' q => ?_
    · obtain ⟨e, v, rfl⟩ := q
      obtain ⟨r, hr1, hr⟩ := (hn.ex e).at hi
      have hm := List.mem_of_getElem? hr1
      rcases hr with ⟨j, rfl, rfl⟩ | ⟨b, rfl, hb'⟩
      · refine ⟨_, rfl, .int j, .ref C, .type "int", _, false, rfl, .own C, .base (.int j), T.ki, false, rfl, iteF ⟨e, some (.int j), ?_⟩⟩
        rw [take_more hr1, lcmL_more, Rat.den_intCast, lcm_one]
        rfl
      · refine ⟨_, rfl, .ref b, .ref C, .ref C, _, true, rfl, .own C, T.ty hb', T.cc, true, rfl, iteT ?_⟩
        obtain ⟨dx, hb⟩ := hb'
        refine ⟨_, rfl, _, rfl, b, C, dx, _, _, rfl, hb, T.cl, T.nB, ratF_bot, _, _, rfl, by rw [Int.natAbs_natCast]; exact hLd i, sz_den (hqn hm), ⟨e, some (.ref b), ?_⟩⟩
        rw [take_more hr1, lcmL_more, Int.natAbs_natCast, Int.natAbs_natCast]
        rfl
    · obtain ⟨e, v, rfl⟩ := q
      rw [show xs.length = qs.length from hn.1, List.take_length]
      exact ⟨_, rfl, k H' e⟩
theorem div_tot (L : Nat) (h0 : 0 < L) (w : Int) (qs : List Rat) (h : ∀ q ∈ qs, q.den ∣ L) : Rat.divInt (w * L + (qs.map fun q => q.num * ((L / q.den : Nat) : Int)).sum) L = (w : Rat) + qs.sum := by
  rw [divInt_add _ _ _ h0, total_eq L h0 qs h]
  have e : Rat.divInt (w * L) L = (w : Rat) := by
    have h := Rat.divInt_mul_right (n := w) (d := 1) (a := (L : Int)) (by omega)
    rw [Int.one_mul] at h
    rw [h, int_eq]
  rw [e]
theorem sum_more {qs : List Rat} {i : Nat} {q : Rat} (h : qs[i]? = some q) : (qs.take (i + 1)).sum = (qs.take i).sum + q := by
  rw [take_more h, List.sum_append, List.sum_cons, List.sum_nil, Rat.add_zero]
/-- what total has gathered behind i numbers: a whole number, and the quotients in a list at D -/
def Got (C : Addr) (n : Nat) (l : Addr) (D : Addr) (H1 : Hp) (qs : List Rat) (i : Nat) (σ' : L2.St) (H' : Hp) : Prop :=
  Ex H1 H' ∧ ∃ (w : Int) (rs : List V) (ps : List Rat) (v : Option V), σ' = [some (.ref l), some (.int w), some (.ref D), v, none, none] ∧ H' D = some (.lst rs) ∧ rs.length = ps.length ∧ (∀ (j : Nat) x, rs[j]? = some x → RatsAt C ps j x H') ∧ rs.length ≤ i ∧ (∀ p ∈ ps, Sz n p) ∧ (w : Rat) + ps.sum = (qs.take i).sum ∧ w.natAbs ≤ i * 2 ^ n
theorem Got.num {n : Nat} {l D : Addr} {H1 H' : Hp} {qs : List Rat} {i : Nat} {w j : Int} {rs : List V} {ps : List Rat} (e : Ex H1 H') (hD : H' D = some (.lst rs)) (hl : rs.length = ps.length) (hr : ∀ (k : Nat) x, rs[k]? = some x → RatsAt C ps k x H') (hi : rs.length ≤ i) (hp : ∀ p ∈ ps, Sz n p)
    (hs : (w : Rat) + ps.sum = (qs.take i).sum) (hw : w.natAbs ≤ i * 2 ^ n) (hq : qs[i]? = some (j : Rat)) (hz : Sz n (j : Rat)) : Got C n l D H1 qs (i + 1) [some (.ref l), some (.int (w + j)), some (.ref D), some (.int j), none, none] H' := by
  refine ⟨e, w + j, rs, ps, _, rfl, hD, hl, hr, by omega, hp, ?_, ?_⟩
  · rw [sum_more hq, ← hs, Rat.intCast_add, Rat.add_assoc, Rat.add_comm (j : Rat), ← Rat.add_assoc]
  · have hj : j.natAbs < 2 ^ n := by have := hz.1; rwa [Rat.num_intCast] at this
    rw [Nat.add_mul, Nat.one_mul]
    omega
theorem Got.rat {n : Nat} {l D b : Addr} {H1 H' : Hp} {qs : List Rat} {i : Nat} {w : Int} {q : Rat} {rs : List V} {ps : List Rat} (e : Ex H1 (upd H' D (.lst (rs ++ [.ref b])))) (hD : H' D = some (.lst rs)) (hl : rs.length = ps.length) (hr : ∀ (k : Nat) x, rs[k]? = some x → RatsAt C ps k x H') (hi : rs.length ≤ i) (hp : ∀ p ∈ ps, Sz n p)
    (hs : (w : Rat) + ps.sum = (qs.take i).sum) (hw : w.natAbs ≤ i * 2 ^ n) (hq : qs[i]? = some q) (hz : Sz n q) (hb : RatAt C H' b q) : Got C n l D H1 qs (i + 1) [some (.ref l), some (.int w), some (.ref D), some (.ref b), none, none] (upd H' D (.lst (rs ++ [.ref b]))) := by
  refine ⟨e, w, rs ++ [.ref b], ps ++ [q], _, rfl, upd_same, by rw [List.length_append, List.length_append, hl]; rfl, fun j x hj => ?_, by rw [List.length_append]; simp; omega, fun p hm => ?_, ?_, by rw [Nat.add_mul]; omega⟩
  · rcases Nat.lt_or_ge j rs.length with h | h
    · rw [List.getElem?_append_left h] at hj
      obtain ⟨a, r, ev, hq2, ra⟩ := hr j x hj
      exact ⟨a, r, ev, by rw [List.getElem?_append_left (by omega)]; exact hq2, ra.st hD⟩
    · rw [List.getElem?_append_right h] at hj
      have h1 : j - rs.length < [V.ref b].length := (List.getElem?_eq_some_iff.mp hj).1
      have h2 : j = rs.length := by simp at h1; omega
      subst h2
      simp at hj
      subst hj
      exact ⟨b, q, rfl, by rw [hl, List.getElem?_append_right (Nat.le_refl _)]; simp, hb.st hD⟩
  · rcases List.mem_append.mp hm with h | h
    · exact hp p h
    · rw [List.mem_singleton.mp h]
      exact hz
  · rw [sum_more hq, ← hs, List.sum_append, List.sum_cons, List.sum_nil, Rat.add_zero, Rat.add_assoc]
theorem ok_total (F : FnP K "total" "total" s_total [] f fd) (T : RatC K C) (c_is_list : Callee P w K mg base 1 "is_list" ["value"] (spIsList K)) (m_isinstance : mg "isinstance" = none) (m_int : mg "int" = none) (g_Ratio : mg "Ratio" = some (.ref C))
    (c_common_bottom : Callee P w K mg base 5 "common_bottom" ["numbers"] (spCommon K C)) (k_Ratio2 : Maker P w K mg base 2 "Ratio" C ["self", "top", "bottom"] [] (spRInit C CZ)) (k_Ratio1 : Maker P w K mg base 2 "Ratio" C ["self", "top", "bottom"] [.int 1] (spRInit C CZ)) (m_sum : mg "sum" = none) :
    FnX P w K mg base 6 f fd ["numbers"] (spTotal K C) := by
  refine F.ok sc_total (fun vs H Q E h => ?_) (fun cdv A outer s H vs Q E hr h => ?_)
  · obtain ⟨l, xs, qs, n, rfl, _⟩ := h
    rfl
  · obtain ⟨l, xs, qs, n, rfl, hx, hn, hq, z1, z2, z3, k⟩ := h
    refine ⟨_, (pss_cons (ps_if (pt_not (pt_val (pe_callee c_is_list (hr.mono (by decide)) (pa_cons (pv 0) pa_nil)))) (pss_one ps_never) pss_nil)
      (pss_cons (ps_asg pe_int (pg_name (i := 1) sc_total.nd rfl (.inl rfl)))
      (pss_cons (ps_asg (pe_lst pa_nil) (pg_name (i := 2) sc_total.nd rfl (.inl rfl)))
      (pss_cons (ps_for (passes_of rfl) rfl (pi_either (pi_list (pv 0)) (pi_tup (pv 0))) (pg_name (i := 3) sc_total.nd rfl (.inl rfl)) (pss_one (ps_if (pt_val (pe_callB call_isi (by rfl) m_isinstance (by decide +kernel) (pa_cons (pv 3) (pa_cons (pe_glob (v := .ref C) (by rfl) g_Ratio rfl) pa_nil)))) (pss_one (ps_expr (pe_bm PySem.F.plainAttrs_list PySem.F.slot_list_append PySem.F.type_list_append mt_append (pv 2) (pa_cons (pv 3) pa_nil)))) (pss_one (ps_if (PW.pt (pw_and (pt_val (pe_callB call_isi (by rfl) m_isinstance (by decide +kernel) (pa_cons (pv 3) (pa_cons (pe_bltn (v := .ty "int") (by rfl) m_int (by decide +kernel) rfl) pa_nil)))) (pw_and (pt_cmpR op_notAny (pv 3) pe_bl (nomark _)) (pw_and1 (pt_cmpR op_notAny (pv 3) pe_bl (nomark _)))))) (pss_one (ps_aug (i := 1) sc_total.nd rfl (.inl rfl) (pv 3) ip_add)) (pss_one ps_never))))))
      (pss_cons (ps_if (pt_not (pt_truth (pv 2) (by intro _; rfl))) (pss_one (ps_ret (pe_maker k_Ratio1 (hr.mono (by decide)) passL (pa_cons (pv 1) pa_nil)))) pss_nil)
      (pss_cons (ps_asg (pe_callee c_common_bottom (hr.mono (by decide)) (pa_cons (pv 2) pa_nil)) (pg_name (i := 4) sc_total.nd rfl (.inr rfl)))
      (pss_one (ps_ret (pe_maker k_Ratio2 (hr.mono (by decide)) passL (pa_cons (pe_op op_add (pe_op op_mulW (pv 1) (pv 4)) (pe_callB (cr_sum rfl) (by rfl) m_sum (by decide +kernel) (pa_cons (pe_lc (own := [("part", 5)]) (g := gName 5) (by rfl) sc_total.nd (pi_list (pv 2)) (blkOk_by (own := [("part", 5)]) (N := ["numbers", "whole", "quotients", "number", "bottom", "part"]) (sc := defScope s_total) (by decide +kernel)) (fun _ _ _ _ _ => (pg_name (i := 5) sc_total.nd rfl (Or.inl rfl))) (fun _ _ _ _ _ => pts_nil) (fun _ _ _ _ _ => (pe_op op_mulW (pe_fldB (pv 5) rfl) (pe_op op_divA (pv 4) (pe_fldB (pv 5) rfl))))) pa_nil))) (pa_cons (pv 4) pa_nil))))))))))), ?_⟩
    have hlen : xs.length ≤ 6000 := by rw [hn.1]; omega
    obtain ⟨t, ty, hk⟩ := seqTy hx
    refine ⟨_, rfl, l, t, true, rfl, ty, hk, fun H1 e1 => ⟨true, rfl, iteF ?_⟩⟩
    refine ⟨(by show 0 ≤ sizeLine; decide), fun D hD => ?_⟩
    have eD : Ex H1 (upd H1 D (.lst [])) := Ex.new hD
    refine for_seq (a := l) (xs := xs) rfl (hx.ex e1) (Got C n l D H1 qs) ⟨eD, 0, [], [], none, rfl, upd_same, rfl, fun j x h => by simp at h, Nat.le_refl _, fun p h => by simp at h, by show ((0 : Int) : Rat) + ([] : List Rat).sum = ([] : List Rat).sum; rw [List.sum_nil, Rat.add_zero]; rfl, by show 0 ≤ 0 * 2 ^ n; exact Nat.zero_le _⟩ (fun _ _ _ q => q.1) (fun i x σ' H' hi q => ?_) fun σ' H' q => ?_
    · obtain ⟨e, w, rs, ps, v, rfl, hDr, hl, hrs, hri, hp, hs, hw⟩ := q
      obtain ⟨r, hr1, hr'⟩ := (hn.ex (e1.trans e)).at hi
      have hm := List.mem_of_getElem? hr1
      have hi' : i < 6000 := by have := (List.getElem?_eq_some_iff.mp hi).1; omega
      rcases hr' with ⟨j, rfl, rfl⟩ | ⟨b, rfl, hb⟩
      · refine ⟨_, rfl, .int j, .ref C, .type "int", _, false, rfl, .own C, .base (.int j), T.ki, false, rfl, iteF ?_⟩
        refine ⟨_, rfl, .int j, .ty "int", .type "int", _, true, rfl, .ty _, (.base (.int _)), int_kit, true, rfl, iteT ⟨_, rfl, true, rfl, true, rfl, iteT ⟨_, rfl, false, rfl, true, rfl, iteT ?_⟩⟩⟩
        exact ⟨_, rfl, _, rfl, _, _, rfl, rfl, Got.num e hDr hl hrs hri hp hs hw hr1 (hq _ hm)⟩
      · refine ⟨_, rfl, .ref b, .ref C, .ref C, _, true, rfl, .own C, T.ty hb, T.cc, true, rfl, iteT ?_⟩
        exact ⟨_, rfl, .inl ⟨rfl, _, SqL.of hDr⟩, _, rfl, D, rs, .ref b, rfl, rfl, hDr, len_line (by omega), Got.rat (e.mut hD) hDr hl hrs hri hp hs hw hr1 (hq _ hm) hb⟩
    · obtain ⟨e, w, rs, ps, v, rfl, hDr, hl, hrs, hri, hp, hs, hw⟩ := q
      rw [hn.1, List.take_length] at hs
      have hw2 : w.natAbs < 2 ^ 6000 := by
        refine Nat.lt_of_le_of_lt hw (Nat.lt_of_le_of_lt (Nat.mul_le_mul_right _ (show xs.length ≤ 2 ^ 13 by rw [hn.1]; exact Nat.le_trans z3 (by decide))) ?_)
        rw [← Nat.pow_add]
        exact Nat.pow_lt_pow_right (by decide) (by omega)
      have e12 := e1.trans e
      refine ⟨_, rfl, _, .inl ⟨rs, SqL.of hDr, rfl⟩, ?_⟩
      cases rs with
      | nil =>
        cases ps with
        | cons p r => simp at hl
        | nil =>
          refine iteT ?_
          refine ⟨_, rfl, fun p dp hp hdp ne => mk_rat (by decide) (by decide) (fun p H2 n' e' h => k p H2 (e12.free n') (e12.trans e') ?_) p dp hp hdp ne⟩
          rw [int_eq] at h
          rw [← hs, List.sum_nil, Rat.add_zero]
          exact h
      | cons r0 rs0 =>
        refine iteF ?_
        generalize r0 :: rs0 = rs at hDr hl hrs hri
        have zl : rs.length ≤ xs.length := hri
        rw [hn.1, hl] at zl
        have hnum : NumsAt C H' rs ps := ⟨hl, fun j x q hx2 hq2 => by
          obtain ⟨a, q', ev, hq', ra⟩ := hrs j x hx2
          rw [hq2] at hq'
          cases hq'
          exact .inr ⟨a, ev, ra⟩⟩
        refine ⟨_, rfl, D, rs, ps, n, rfl, .inl (SqL.of hDr), hnum, hp, Nat.le_trans (Nat.mul_le_mul_left n zl) z1, z2, by omega, fun H2 e2 => ?_⟩
        have hL0 := lcmL_pos ps
        have hL : lcmL ps < 2 ^ 6000 := by
          have h := lcm_lt hp (Nat.le_trans (Nat.mul_le_mul_left n zl) z1) ps.length
          rwa [List.take_length] at h
        refine ⟨_, rfl, _, rfl, _, _, rfl, rfl, sz_mul hw2 (by rw [Int.natAbs_natCast]; exact hL) (by decide) (by decide), ?_⟩
        refine ⟨_, rfl, D, rfl, ⟨rs, SqL.of (e2 _ _ hDr)⟩, fun D2 hD2 => lc_rel (fun i v _ => ∃ q : Rat, ps[i]? = some q ∧ v = .int (q.num * ((lcmL ps / q.den : Nat) : Int))) (fun _ _ _ _ _ h => h) (fun _ _ _ _ _ _ h => h) hD2 (SqL.of (e2 _ _ hDr)) (by omega) (fun _ => rfl) (fun i x H3 e3 hi Q q => ?_) fun bs H3 e3 hb hlb hv => ?_⟩
        · obtain ⟨a, p, rfl, hpi, ra⟩ := hrs i x hi
          have zp : Sz 6000 p := (hp _ (List.mem_of_getElem? hpi)).mono (by omega)
          obtain ⟨dx, ha⟩ := (ra.ex (e2.trans e3))
          have hp0 := den_pos p
          have ed : ((lcmL ps : Nat) : Int).fdiv (p.den : Int) = ((lcmL ps / p.den : Nat) : Int) := by
            rw [Int.fdiv_eq_ediv_of_nonneg _ (by omega)]
            rfl
          refine ⟨_, rfl, a, C, dx, _, _, rfl, ha, T.cl, T.nT, ratF_top, _, rfl, _, rfl, a, C, dx, _, _, rfl, ha, T.cl, T.nB, ratF_bot, _, _, rfl, rfl, divA (n := 6000) (by omega) (sz_den zp) (by decide), ?_⟩
          refine ⟨_, _, rfl, rfl, sz_mul (m := 6000) zp.1 ?_ (by decide) (by decide), ?_⟩
          · show ((lcmL ps : Int).fdiv (p.den : Int)).natAbs < 2 ^ 6000
            rw [ed, Int.natAbs_natCast]
            exact Nat.lt_of_le_of_lt (Nat.div_le_self ..) hL
          · exact (congrArg (fun z => Q (V.int (p.num * z)) H3) ed).mpr (q _ H3 Ex.rfl ⟨p, hpi, rfl⟩)
        · have ebs : bs = (ps.map fun q => q.num * ((lcmL ps / q.den : Nat) : Int)).map V.int := vals_int (by rw [List.length_map]; exact hlb.trans hl) fun i v m h1 h2 => by
            obtain ⟨q, hqi, ev⟩ := hv i v h1
            rw [List.getElem?_map, hqi] at h2
            rw [ev]
            exact congrArg V.int (Option.some.inj h2)
          rw [ebs] at hb
          refine ⟨D2, _, rfl, SqL.of hb, _, _, rfl, rfl, _, rfl, ?_⟩
          refine fun p dp hp' hdp ne => mk_rat (by omega) (by rw [Int.natAbs_natCast]; exact Nat.lt_trans hL (Nat.pow_lt_pow_right (by decide) (by decide))) (fun p H4 n' e' h => k p H4 (((e12.trans e2).trans e3).free n') (((e12.trans e2).trans e3).trans e') ?_) p dp hp' hdp ne
          rw [div_tot _ hL0 _ ps fun q hm => lcmL_dvd hm, hs] at h
          exact h
/-! least, greatest -/
abbrev s_is_below : Stmt := top 14
theorem sc_is_below : FnScope ["one", "other"] ["one", "other"] (defScope s_is_below) := ⟨rfl, rfl, rfl, by decide +kernel, rfl, by decide +kernel, by decide +kernel⟩
def spIsBelow (C : Addr) : Sp := fun vs H Q _ => ∃ x y q r, vs = [x, y] ∧ NumAt C H x q ∧ NumAt C H y r ∧ Sz 9000 q ∧ Sz 9000 r ∧ ∀ H', Ex H H' → Q (.bl (decide (q < r))) H'
theorem lt_int_dec (i : Int) (r : Rat) : decide (i * (r.den : Int) < r.num) = decide ((i : Rat) < r) := by
  have h := lt_dec (i : Rat) r
  rwa [Rat.den_intCast, Rat.num_intCast, Int.natCast_one, Int.mul_one] at h
theorem lt_int_int (i j : Int) : decide (i < j) = decide ((i : Rat) < (j : Rat)) := by
  have h := lt_dec (i : Rat) (j : Rat)
  rwa [Rat.den_intCast, Rat.den_intCast, Rat.num_intCast, Rat.num_intCast, Int.natCast_one, Int.mul_one, Int.mul_one] at h
theorem ok_is_below (F : FnP K "is_below" "is_below" s_is_below [] f fd) (T : RatC K C) (m_isinstance : mg "isinstance" = none) (g_Ratio : mg "Ratio" = some (.ref C)) (m_below : Mthd P w K mg base 2 C "below" ["self", "number"] (spBelow C)) : FnX P w K mg base 3 f fd ["one", "other"] (spIsBelow C) := by
  refine F.ok sc_is_below (fun vs H Q E h => ?_) (fun cdv A outer s H vs Q E hr h => ?_)
  · obtain ⟨x, y, q, r, rfl, _⟩ := h
    rfl
  · obtain ⟨x, y, q, r, rfl, hx, hy, zq, zr, k⟩ := h
    obtain ⟨f_below, fd_below, cl_below, me_below, b_below, F_below⟩ := m_below.ex
    refine ⟨_, (pss_cons (ps_if (pt_val (pe_callB call_isi (by rfl) m_isinstance (by decide +kernel) (pa_cons (pv 0) (pa_cons (pe_glob (v := .ref C) (by rfl) g_Ratio rfl) pa_nil)))) (pss_one (ps_ret (pe_meth (pv 0) cl_below me_below F_below (hr.mono (by decide)) b_below .nil passL (pa_cons (pv 1) pa_nil)))) pss_nil)
      (pss_cons (ps_if (pt_val (pe_callB call_isi (by rfl) m_isinstance (by decide +kernel) (pa_cons (pv 1) (pa_cons (pe_glob (v := .ref C) (by rfl) g_Ratio rfl) pa_nil)))) (pss_one (ps_ret (pe_cmpR op_lt (pe_op op_mulW (pv 0) (pe_fld (pv 1) rfl)) (pe_fld (pv 1) rfl) (nomark _)))) pss_nil)
      (pss_one (ps_ret (pe_cmpR op_lt (pv 0) (pv 1) (nomark _)))))), ?_⟩
    rcases hx with ⟨i, rfl, rfl⟩ | ⟨a, rfl, ra⟩
    · have zi : i.natAbs < 2 ^ 9000 := by have := zq.1; rwa [Rat.num_intCast] at this
      refine ⟨_, rfl, .int i, .ref C, .type "int", _, false, rfl, .own C, .base (.int i), T.ki, false, rfl, iteF ?_⟩
      rcases hy with ⟨j, rfl, rfl⟩ | ⟨b, rfl, rb⟩
      · refine ⟨_, rfl, .int j, .ref C, .type "int", _, false, rfl, .own C, .base (.int j), T.ki, false, rfl, iteF ?_⟩
        have k := k H Ex.rfl
        rw [← lt_int_int] at k
        exact ⟨_, rfl, _, rfl, _, _, rfl, rfl, k⟩
      · refine ⟨_, rfl, .ref b, .ref C, .ref C, _, true, rfl, .own C, T.ty rb, T.cc, true, rfl, iteT ?_⟩
        obtain ⟨dx, hb⟩ := rb
        have k := k H Ex.rfl
        rw [← lt_int_dec] at k
        exact ⟨_, rfl, _, rfl, b, C, dx, _, _, rfl, hb, T.cl, T.nB, ratF_bot, _, _, rfl, rfl, sz_mul zi (sz_den zr) (by decide) (by decide), _, rfl, b, C, dx, _, _, rfl, hb, T.cl, T.nT, ratF_top, _, _, rfl, rfl, k⟩
    · refine ⟨_, rfl, .ref a, .ref C, .ref C, _, true, rfl, .own C, T.ty ra, T.cc, true, rfl, iteT ?_⟩
      obtain ⟨dx, ha⟩ := id ra
      exact ⟨_, rfl, a, dx, _, rfl, ha, ratF_no (by decide +kernel) (by decide +kernel), y, rfl, a, y, q, r, rfl, ra, hy, zq, zr, k⟩
abbrev s_least : Stmt := top 17
theorem sc_least : FnScope ["numbers", "found", "place"] ["numbers"] (defScope s_least) := ⟨rfl, rfl, rfl, by decide +kernel, rfl, by decide +kernel, by decide +kernel⟩
abbrev s_greatest : Stmt := top 18
theorem sc_greatest : FnScope ["numbers", "number"] ["numbers"] (defScope s_greatest) := ⟨rfl, rfl, rfl, by decide +kernel, rfl, by decide +kernel, by decide +kernel⟩
def spLeast (K : Fg) (C : Addr) : Sp := fun vs H Q _ => ∃ l xs qs, vs = [.ref l] ∧ SqX K H l xs ∧ NumsAt C H xs qs ∧ xs.length ≤ 6000 ∧ 0 < xs.length ∧ (∀ q ∈ qs, Sz 9000 q) ∧ ∀ H', Ex H H' → Q (.int ((leastTo qs (qs.length - 1) : Nat) : Int)) H'
theorem seqIx {H : Hp} {l : Addr} {xs : List V} {i : Int} {v : V} {Q : VK} {Z : Prop} (h : SqX K H l xs) (ha : atI xs i = some v) (k : Q v H) : rIxL K (.ref l) (.int i) H Q ∨ rIxT K (.ref l) (.int i) H Q ∨ Z :=
  h.elim (fun h => .inl ⟨l, xs, i, v, rfl, rfl, h, ha, k⟩) fun h => .inr (.inl ⟨l, xs, i, v, rfl, rfl, h, ha, k⟩)
theorem ok_least (F : FnP K "least" "least" s_least [] f fd) (T : RatC K C) (c__check_some_numbers : Callee P w K mg base 5 "_check_some_numbers" ["numbers"] (spCheckSome K C)) (c_is_below : Callee P w K mg base 3 "is_below" ["one", "other"] (spIsBelow C)) (m_range : mg "range" = none) (m_len : mg "len" = none) : FnX P w K mg base 6 f fd ["numbers"] (spLeast K C) := by
  refine F.ok sc_least (fun vs H Q E h => ?_) (fun cdv A outer s H vs Q E hr h => ?_)
  · obtain ⟨l, xs, qs, rfl, _⟩ := h
    rfl
  · obtain ⟨l, xs, qs, rfl, hx, hn, hz, h0, hq, k⟩ := h
    refine ⟨_, (pss_cons (ps_expr (pe_callee c__check_some_numbers (hr.mono (by decide)) (pa_cons (pv 0) pa_nil)))
      (pss_cons (ps_asg pe_int (pg_name (i := 1) sc_least.nd rfl (.inl rfl)))
      (pss_cons (ps_for (passes_of rfl) rfl (pi_range2 (by rfl) m_range (pa_cons pe_int (pa_cons (pe_callB call_len (by rfl) m_len (by decide +kernel) (pa_cons (pv 0) pa_nil)) pa_nil))) (pg_name (i := 2) sc_least.nd rfl (.inl rfl)) (pss_one (ps_if (pt_truth (pe_callee c_is_below (hr.mono (by decide)) (pa_cons (pe_ix ix_seq (pv 0) (pv 2) (fun _ _ => rfl)) (pa_cons (pe_ix ix_seq (pv 0) (pv 1) (fun _ _ => rfl)) pa_nil))) (by intro _; rfl)) (pss_one (ps_asg (pv 2) (pg_name (i := 1) sc_least.nd rfl (.inl rfl)))) pss_nil)))
      (pss_one (ps_ret (pv 1)))))), ?_⟩
    refine ⟨_, rfl, l, xs, qs, rfl, hx, hn, hz, h0, fun H1 e1 => ?_⟩
    have hx1 := hx.ex e1
    have hlen := hn.1
    refine ⟨_, rfl, .ref l, xs.length, rfl, seqLen hx1, 1, _, rfl, ⟨by decide, by decide, by omega, by omega⟩, for_range (lo := 1) (n := ((xs.length : Int) - 1).toNat) (fun i σ' H' => Ex H1 H' ∧ ∃ v, σ' = [some (.ref l), some (.int ((leastTo qs i : Nat) : Int)), v]) ⟨Ex.rfl, none, rfl⟩ ?_ ?_⟩
    · rintro i σ' H' hi ⟨e2, v, rfl⟩
      have hi' : i + 1 < xs.length := by omega
      have hj := leastTo_le qs i
      have hx2 := hx1.ex e2
      have hn2 := (hn.ex e1).ex e2
      have g1 : atI xs (1 + (i : Int)) = some xs[i + 1] := at_of (j := i + 1) (by omega) (List.getElem?_eq_getElem hi')
      have g2 : atI xs ((leastTo qs i : Nat) : Int) = some xs[leastTo qs i] := at_of (j := leastTo qs i) rfl (List.getElem?_eq_getElem (by omega))
      obtain ⟨q1, hq1, n1⟩ := hn2.at (List.getElem?_eq_getElem hi')
      obtain ⟨q2, hq2, n2⟩ := hn2.at (List.getElem?_eq_getElem (show leastTo qs i < xs.length by omega))
      refine ⟨_, rfl, _, rfl, seqIx hx2 g1 ⟨_, rfl, _, rfl, seqIx hx2 g2 ?_⟩⟩
      refine ⟨_, _, q1, q2, rfl, n1, n2, hq q1 (List.mem_of_getElem? hq1), hq q2 (List.mem_of_getElem? hq2), fun H4 e4 => ⟨_, rfl, ?_⟩⟩
      have es : leastTo qs (i + 1) = if q1 < q2 then i + 1 else leastTo qs i := by
        show (if qs.getD (i + 1) 0 < qs.getD (leastTo qs i) 0 then i + 1 else leastTo qs i) = _
        rw [List.getD_eq_getElem?_getD, List.getD_eq_getElem?_getD, hq1, hq2]
        rfl
      refine ite2 (fun e => ?_) (fun e => ?_)
      · refine ⟨_, rfl, e2.trans e4, some (.int (1 + i)), ?_⟩
        rw [es, if_pos (of_decide_eq_true e), show ((i + 1 : Nat) : Int) = 1 + (i : Int) by omega]
        rfl
      · refine ⟨e2.trans e4, some (.int (1 + i)), ?_⟩
        rw [es, if_neg (fun z => e (decide_eq_true z))]
        rfl
    · rintro σ' H' ⟨e2, v, rfl⟩
      refine ⟨_, rfl, ?_⟩
      have z := k H' (e1.trans e2)
      rw [show ((xs.length : Int) - 1).toNat = qs.length - 1 by omega]
      exact z
def spGreatest (K : Fg) (C : Addr) : Sp := fun vs H Q _ => ∃ l xs qs, vs = [.ref l] ∧ SqX K H l xs ∧ NumsAt C H xs qs ∧ xs.length ≤ 6000 ∧ 0 < xs.length ∧ (∀ q ∈ qs, Sz 9000 q) ∧ ∀ H', Ex H H' → Q (.int ((leastTo (qs.map (fun q => -q)) (qs.length - 1) : Nat) : Int)) H'
theorem ok_greatest (F : FnP K "greatest" "greatest" s_greatest [] f fd) (T : RatC K C) (c__check_some_numbers : Callee P w K mg base 5 "_check_some_numbers" ["numbers"] (spCheckSome K C)) (c_as_ratio : Callee P w K mg base 4 "as_ratio" ["number"] (spAsRatio C))
    (o_Neg : NegOk P w K mg base 5 C (spNeg C)) (c_least : Callee P w K mg base 6 "least" ["numbers"] (spLeast K C)) : FnX P w K mg base 7 f fd ["numbers"] (spGreatest K C) := by
  refine F.ok sc_greatest (fun vs H Q E h => ?_) (fun cdv A outer s H vs Q E hr h => ?_)
  · obtain ⟨l, xs, qs, rfl, _⟩ := h
    rfl
  · obtain ⟨l, xs, qs, rfl, hx, hn, hz, h0, hq, k⟩ := h
    refine ⟨_, (pss_cons (ps_expr (pe_callee c__check_some_numbers (hr.mono (by decide)) (pa_cons (pv 0) pa_nil)))
      (pss_one (ps_ret (pe_callee c_least (hr.mono (by decide)) (pa_cons (pe_lc (own := [("number", 1)]) (g := gName 1) (by rfl) sc_greatest.nd (pi_either (pi_list (pv 0)) (pi_tup (pv 0))) (blkOk_by (own := [("number", 1)]) (N := ["numbers", "number"]) (sc := defScope s_greatest) (by decide +kernel)) (fun _ _ _ _ _ => (pg_name (i := 1) sc_greatest.nd rfl (Or.inl rfl))) (fun _ _ _ _ _ => pts_nil) (fun _ _ _ _ _ => (pe_un (un_ownNeg o_Neg (hr.mono (by decide))) (pe_callee c_as_ratio (hr.mono (by decide)) (pa_cons (pv 1) pa_nil))))) pa_nil))))), ?_⟩
    refine ⟨_, rfl, l, xs, qs, rfl, hx, hn, hz, h0, fun H1 e1 => ?_⟩
    have hn1 := hn.ex e1
    have hlen := hn.1
    have sz : ∀ q : Rat, Sz 9000 q → Sz 9000 (-q) := fun q h => ⟨by show (-q.num).natAbs < _; rw [Int.natAbs_neg]; exact h.1, h.2⟩
    have step : ∀ i (x : V) H', Ex H1 H' → xs[i]? = some x → ∀ Q : VK, (∀ v H2, Ex H' H2 → RatsAt C (qs.map (fun q => -q)) i v H2 → Q v H2) → tUn (rNeg C (spNeg C)) (tCall (spAsRatio C) [] E0 (tCons (tVar 1) tNil)) [some (.ref l), some x] H' Q := fun i x H' e hi Q q => by
      obtain ⟨r, hr1, hr⟩ := (hn1.ex e).at hi
      refine ⟨_, rfl, x, r, rfl, hr, fun b H2 e2 rb => ?_⟩
      have rb' := rb
      obtain ⟨dx, hb⟩ := rb
      exact ⟨⟨b, dx, _, rfl, hb⟩, b, r, rfl, rb', hq r (List.mem_of_getElem? hr1), fun p H3 _ e3 rp => q _ H3 (e2.trans e3) ⟨p, -r, rfl, by rw [List.getElem?_map, hr1]; rfl, rp⟩⟩
    have fin : ∀ (D : Addr) (bs : List V) (H2 : Hp), Ex H1 H2 → H2 D = some (.lst bs) → bs.length = xs.length → (∀ (i : Nat) v, bs[i]? = some v → RatsAt C (qs.map (fun q => -q)) i v H2) → spLeast K C [.ref D] H2 Q E0 := fun D bs H2 e2 hb hl hv => by
      refine ⟨D, bs, qs.map (fun q => -q), rfl, .inl (SqL.of hb), ⟨by rw [List.length_map]; omega, fun i v q h1 h2 => ?_⟩, by omega, by omega, fun q hm => ?_, fun H3 e3 => ?_⟩
      · obtain ⟨a, q', rfl, h3, r⟩ := hv i v h1
        rw [h2] at h3
        rw [Option.some.inj h3]
        exact r.num
      · obtain ⟨r, hr1, rfl⟩ := List.mem_map.mp hm
        exact sz r (hq r hr1)
      · rw [List.length_map]
        exact k H3 ((e1.trans e2).trans e3)
    rcases hx.ex e1 with hx1 | hx1
    · exact .inl ⟨_, rfl, l, rfl, ⟨xs, hx1⟩, fun D hD => lc_rel (RatsAt C (qs.map (fun q => -q))) rats_stab rats_st hD hx1 (by omega) (fun _ => rfl) step fun bs H2 e2 hb hl hv => fin D bs H2 e2 hb hl hv⟩
    · exact .inr ⟨_, rfl, l, rfl, ⟨xs, hx1⟩, fun D hD => lc_relT (RatsAt C (qs.map (fun q => -q))) rats_stab rats_st hD hx1 (by omega) (fun _ => rfl) step fun bs H2 e2 hb hl hv => fin D bs H2 e2 hb hl hv⟩
/-! ## what all laws draw by: cells, bags, digits -/
abbrev s__law_cell : Stmt := top 23
theorem sc__law_cell : FnScope ["_law_script", "_law_index"] ["_law_script", "_law_index"] (defScope s__law_cell) := ⟨rfl, rfl, rfl, by decide +kernel, rfl, by decide +kernel, by decide +kernel⟩
abbrev s__law_bag : Stmt := top 24
theorem sc__law_bag : FnScope ["_law_cell_here"] ["_law_cell_here"] (defScope s__law_bag) := ⟨rfl, rfl, rfl, by decide +kernel, rfl, by decide +kernel, by decide +kernel⟩
abbrev s__law_take : Stmt := top 25
theorem sc__law_take : FnScope ["_law_bag_here", "_law_many", "_law_digit", "_law_mixed"] ["_law_bag_here", "_law_many"] (defScope s__law_take) := ⟨rfl, rfl, rfl, by decide +kernel, rfl, by decide +kernel, by decide +kernel⟩
def spCell (K : Fg) : Sp := fun vs H Q _ => ∃ (s : Addr) (i : Int) (ns : List Int), vs = [.ref s, .int i] ∧ SqL K H s (ns.map V.int) ∧ 0 ≤ i ∧ i < 1000000 ∧ ns.length ≤ 100000 ∧ ∀ c, Q (.int c) H
theorem ok_cell (F : FnP K "_law_cell" "_law_cell" s__law_cell [] f fd) (m_len : mg "len" = none) : FnX P w K mg base 1 f fd ["_law_script", "_law_index"] (spCell K) := by
  refine F.ok sc__law_cell (fun vs H Q E h => ?_) (fun cdv A outer s H vs Q E hr h => ?_)
  · obtain ⟨s, i, ns, rfl, _⟩ := h
    rfl
  · obtain ⟨sc, i, ns, rfl, hS, h0, h1, hz, k⟩ := h
    refine ⟨_, (pss_cons (ps_if (pt_cmpR op_lt (pv 1) (pe_callB call_len (by rfl) m_len (by decide +kernel) (pa_cons (pv 0) pa_nil)) (nomark _)) (pss_one (ps_ret (pe_ix ix_list (pv 0) (pv 1) (fun _ _ => rfl)))) pss_nil)
      (pss_one (ps_ret (pe_op op_add (pe_op op_mulW pe_int (pv 1)) pe_int)))), ?_⟩
    refine ⟨_, rfl, _, rfl, .ref sc, ns.length, rfl, .inl ⟨_, hS, (List.length_map _).symm⟩, _, _, rfl, rfl, _, rfl, ite2 (fun e => ?_) (fun e => ?_)⟩
    · have e := of_decide_eq_true e
      refine ⟨_, rfl, _, rfl, sc, _, _, .int (ns.getD i.toNat 0), rfl, rfl, hS, at_of (j := i.toNat) (by omega) ?_, k _⟩
      rw [List.getElem?_map, List.getD_eq_getElem?_getD, List.getElem?_eq_getElem (show i.toNat < ns.length by omega)]
      rfl
    · exact ⟨_, rfl, _, _, rfl, rfl, wide_mul (a := 64) (b := 64) (by decide) (by omega) (by decide) (by decide) (by decide), _, _, rfl, rfl, k _⟩
def spBag : Sp := fun vs H Q _ => ∃ c, vs = [.int c] ∧ ∀ m H', H m = none → Ex H H' → BagAt H' m 0 → Q (.ref m) H'
theorem ok_bag (F : FnP K "_law_bag" "_law_bag" s__law_bag [] f fd) (m_max : mg "max" = none) : FnX P w K mg base 1 f fd ["_law_cell_here"] spBag := by
  refine F.ok sc__law_bag (fun vs H Q E h => ?_) (fun cdv A outer s H vs Q E hr h => ?_)
  · obtain ⟨c, rfl, _⟩ := h
    rfl
  · obtain ⟨c, rfl, k⟩ := h
    refine ⟨_, (pss_one (ps_ret (pe_lst (pa_cons (pe_callB (call_max2 rfl) (by rfl) m_max (by decide +kernel) (pa_cons pe_int (pa_cons (pe_op op_sub (pv 0) (pe_op op_pow pe_int pe_int)) pa_nil))) (pa_cons (pe_op op_mod (pv 0) pe_int) (pa_cons pe_int pa_nil)))))), ?_⟩
    refine ⟨_, rfl, _, _, rfl, rfl, ⟨by decide, by decide, by decide⟩, _, _, rfl, rfl, _, _, rfl, _, rfl, _, _, rfl, rfl, (by show (0 : Int) < 2147483629; decide), (by show 3 ≤ sizeLine; decide), fun m hm => k m _ hm (Ex.new hm) ⟨_, _, _, upd_same, ?_, ?_, ?_, ?_, ?_⟩⟩
    · split <;> omega
    · exact Int.emod_nonneg _ (by decide)
    · exact Int.emod_lt_of_pos _ (by decide)
    · decide
    · decide
theorem pow_in {a z : Int} (h0 : 0 ≤ z) (h1 : z ≤ 1073741824) : (a % 2147483647 + 104729 * z).natAbs < 2 ^ 64 := by
  have := Int.emod_nonneg a (show (2147483647 : Int) ≠ 0 by decide)
  have := Int.emod_lt_of_pos a (show (0 : Int) < 2147483647 by decide)
  omega
def spTake : Sp := fun vs H Q _ => ∃ m k n, vs = [.ref m, .int k] ∧ 0 < k ∧ k.natAbs < 2 ^ 9000 ∧ BagAt H m n ∧ n < 2 ^ 30 ∧ ∀ r H', 0 ≤ r → r < k → Kp m H H' → BagAt H' m (n + 1) → Q (.int r) H'
theorem ok_take (F : FnP K "_law_take" "_law_take" s__law_take [] f fd) : FnX P w K mg base 1 f fd ["_law_bag_here", "_law_many"] spTake := by
  refine F.ok sc__law_take (fun vs H Q E h => ?_) (fun cdv A outer s H vs Q E hr h => ?_)
  · obtain ⟨m, k, n, rfl, _⟩ := h
    rfl
  · obtain ⟨m, many, n, rfl, h0, hs, ⟨x, y, z, hm, hx, hy, hy2, hz, hz2⟩, hn, k⟩ := h
    refine ⟨_, (pss_cons (ps_if (pt_cmpR op_gt (pe_ix ix_list (pv 0) pe_int (fun _ _ => rfl)) pe_int (nomark _)) (pss_cons (ps_asg (pe_op op_mod (pe_ix ix_list (pv 0) pe_int (fun _ _ => rfl)) (pv 1)) (pg_name (i := 2) sc__law_take.nd rfl (.inl rfl)))
      (pss_cons (ps_asg (pe_op op_fdivW (pe_ix ix_list (pv 0) pe_int (fun _ _ => rfl)) (pv 1)) (pg_sub (pv 0) pe_int set_list))
      (pss_one (ps_ret (pv 2))))) pss_nil)
      (pss_cons (ps_asg (pe_op op_add (pe_ix ix_list (pv 0) pe_int (fun _ _ => rfl)) pe_int) (pg_sub (pv 0) pe_int set_list))
      (pss_cons (ps_asg (pe_op op_mod (pe_op op_pow (pe_op op_add (pe_op op_add (pe_ix ix_list (pv 0) pe_int (fun _ _ => rfl)) (pe_op op_mulW pe_int (pe_ix ix_list (pv 0) pe_int (fun _ _ => rfl)))) pe_int) pe_int) pe_int) (pg_name (i := 3) sc__law_take.nd rfl (.inl rfl)))
      (pss_cons (ps_asg (pe_op op_mod (pe_op op_pow (pe_op op_add (pv 3) (pe_op op_mulW pe_int (pe_ix ix_list (pv 0) pe_int (fun _ _ => rfl)))) pe_int) pe_int) (pg_name (i := 3) sc__law_take.nd rfl (.inl rfl)))
      (pss_one (ps_ret (pe_op op_mod (pe_op op_fdivW (pv 3) pe_int) (pv 1)))))))), ?_⟩
    have g0 : atI ([.int x, .int y, .int z] : List V) 0 = some (.int x) := at_of (j := 0) rfl rfl
    have g1 : atI ([.int x, .int y, .int z] : List V) 1 = some (.int y) := at_of (j := 1) rfl rfl
    have g2 : atI ([.int x, .int y, .int z] : List V) 2 = some (.int z) := at_of (j := 2) rfl rfl
    have hn' : (n : Int) < 1073741824 := by
      have : (2 : Nat) ^ 30 = 1073741824 := by decide
      omega
    refine ⟨_, rfl, m, _, _, _, rfl, rfl, SqL.of hm, g0, _, _, rfl, rfl, _, rfl, ite2 (fun e => ?_) (fun e => ?_)⟩
    · have e := of_decide_eq_true e
      refine ⟨_, rfl, m, _, _, _, rfl, rfl, SqL.of hm, g0, _, rfl, _, _, rfl, rfl, h0, ?_⟩
      refine ⟨_, rfl, m, _, _, _, rfl, rfl, SqL.of hm, g0, _, rfl, _, _, rfl, rfl, wide_div (b := 9000) h0 hs (by decide) (by decide), ?_⟩
      refine ⟨_, rfl, m, _, _, 0, rfl, rfl, hm, rfl, ?_⟩
      refine ⟨_, rfl, k _ _ (Int.emod_nonneg _ (by omega)) (Int.emod_lt_of_pos _ h0) Kp.set ⟨x / many, y, z, upd_same, Int.ediv_nonneg (by omega) (by omega), hy, hy2, hz, by omega⟩⟩
    · refine ⟨_, rfl, m, _, _, _, rfl, rfl, SqL.of hm, g2, _, _, rfl, rfl, _, rfl, m, _, _, 2, rfl, rfl, hm, rfl, ?_⟩
      have hm2 : (upd H m (.lst [.int x, .int y, .int (z + 1)])) m = some (.lst [.int x, .int y, .int (z + 1)]) := upd_same
      have g1' : atI ([.int x, .int y, .int (z + 1)] : List V) 1 = some (.int y) := at_of (j := 1) rfl rfl
      have g2' : atI ([.int x, .int y, .int (z + 1)] : List V) 2 = some (.int (z + 1)) := at_of (j := 2) rfl rfl
      refine ⟨_, rfl, m, _, _, _, rfl, rfl, SqL.of hm2, g1', _, rfl, m, _, _, _, rfl, rfl, SqL.of hm2, g2', _, _, rfl, rfl, wide_mul (a := 64) (b := 64) (by decide) (by omega) (by decide) (by decide) (by decide), _, _, rfl, rfl, _, _, rfl, rfl, _, _, rfl, rfl, ⟨by decide, by decide, by omega⟩, _, _, rfl, rfl, (by show (0 : Int) < 2147483647; decide), ?_⟩
      refine ⟨_, rfl, _, rfl, m, _, _, _, rfl, rfl, SqL.of hm2, g2', _, _, rfl, rfl, wide_mul (a := 64) (b := 64) (by decide) (by omega) (by decide) (by decide) (by decide), _, _, rfl, rfl, _, _, rfl, rfl, ⟨by decide, by decide, pow_in (by omega) (by omega)⟩, _, _, rfl, rfl, (by show (0 : Int) < 2147483587; decide), ?_⟩
      refine ⟨_, rfl, _, _, rfl, rfl, ⟨by decide, by decide⟩, _, rfl, _, _, rfl, rfl, h0, ?_⟩
      exact k _ _ (Int.emod_nonneg _ (by omega)) (Int.emod_lt_of_pos _ h0) Kp.set ⟨x, y, z + 1, upd_same, hx, hy, hy2, by omega, by omega⟩
/-! ## what callers of Ratio lean on -/
theorem rat_new {H : Hp} {p dp : Addr} (hp : H p = none) (hdp : H dp = none) (q : Rat) : Ex H (upd (upd H dp (.own p)) p (.ins C dp (ratF q))) ∧ RatAt C (upd (upd H dp (.own p)) p (.ins C dp (ratF q))) p q := ⟨(Ex.new hdp).mut hp, dp, upd_same⟩
theorem RatAt.is {H : Hp} {a : Addr} {q : Rat} (r : RatAt C H a q) : ∃ a' dx fs, V.ref a = .ref a' ∧ H a' = some (.ins C dx fs) := r.elim fun dx h => ⟨a, dx, _, rfl, h⟩
theorem NumAt.right {H : Hp} {v : V} {q : Rat} (hs : PySem.W.subIn K (.type "int") (.ref C) = some false) (r : NumAt C H v q) : Right K C H v := by
  rcases r with ⟨i, rfl, _⟩ | ⟨a, rfl, dx, h⟩
  · exact .inr ⟨"int", .base (.int i), hs⟩
  · exact .inl ⟨a, dx, _, rfl, h⟩
theorem NumAt.right2 {H : Hp} {v : V} {q : Rat} (hs : PySem.W.subIn K (.type "int") (.ref C) = some false) (r : NumAt C H v q) : (∃ b dy gs, v = .ref b ∧ H b = some (.ins C dy gs)) ∨ ∃ i, v = .int i := by
  rcases r with ⟨i, rfl, _⟩ | ⟨a, rfl, dx, h⟩
  · exact .inr ⟨i, rfl⟩
  · exact .inl ⟨a, dx, _, rfl, h⟩
/-- a quotient and an equal integer, in a list -/
def DRat (C : Addr) : Eqv := fun x y H => ∃ a i, x = .ref a ∧ y = .int i ∧ RatAt C H a (i : Rat)
theorem mon_rat : Mon (DRat C) := fun x y H H' e ⟨a, i, hx, hy, r⟩ => ⟨a, i, hx, hy, r.ex e⟩
theorem eqG_rat {X : Cx} (e : EqOk X.prog X.w X.K X.mg X.base 3 C (spEqR X.K C)) (hs : PySem.W.subIn X.K (.type "int") (.ref C) = some false) : EqG X 3 (DRat C) := by
  intro A pins s σ H x y u v sb I rx ry ⟨a, i, ex, ey, r⟩
  subst ex ey
  cases (show u = Value.ref a from rx)
  obtain ⟨t, ev⟩ := (show ∃ t, v = Value.int i t from ry)
  subst ev
  obtain ⟨f, fd, ps, h1, h2, b, F⟩ := e.ex
  obtain ⟨dx, ea⟩ := id r
  obtain ⟨mA, O, _⟩ := ins_get I.hok ea
  obtain ⟨od, J, _⟩ := O.look
  obtain ⟨m, fr⟩ := I.fr
  have L : PySem.W.Looks (model X.prog X.w) s.heap (typeOf (.int i t)) (.type "int") := .of_pure rfl
  have n : PySem.W.notFirst X.K C (.type "int") = true := by simp [PySem.W.notFirst, hs]
  have go := PySem.W.cmp_K (op := .Eq) sb.room.units0 fr I.ok.mod.kin J L n h1 h2 (wpAny_mono (run_sign F sb.room sb.fr b I (.cons (show RelV (.ref a) (.ref a) from rfl) (.cons (show RelV (.int i) (.int i t) from ⟨t, rfl⟩) .nil)) (Q := fun v H' => v = .bl true ∧ Ex H H') ⟨a, .int i, _, rfl, r, .inl ⟨(i : Rat), .inl ⟨i, rfl, rfl⟩, by rw [decide_eq_true rfl]; exact ⟨rfl, Ex.rfl⟩⟩⟩) (fun u' s' q => by
      obtain ⟨v', H', I', r', q'⟩ := q
      exact CmpBack.of (Q := EP X pins σ fun v H' => v = .bl true ∧ Ex H H') r' ⟨v', H', I', r', q'⟩) fun _ _ z => z)
  unfold eqBool
  refine wpAny_holding (wpAny_ite_split (fun hab => ?_) fun _ => ?_)
  · have z := eq_of_beq hab
    cases z
  · refine wpAny_bind (wpAny_mono go (fun u' s' q => ?_) fun _ _ z => z)
    obtain ⟨v', H', I', r', ev, ex⟩ := q
    subst ev
    cases (show u' = Value.bool true from r')
    exact wpAny_truthy_bool ⟨rfl, H', I', ex⟩
/-- the class over the built-in types -/
structure RatO (K : Fg) (C : Addr) : Prop where
  si : PySem.W.subIn K (.type "int") (.ref C) = some false
  so : ∀ n ∈ ["NoneType", "bool", "str", "list", "tuple", "dict"], PySem.W.subIn K (.type n) (.ref C) = some false
  ko : ∀ n ∈ ["NoneType", "bool", "str", "list", "tuple", "dict"], PySem.W.kitOne K (.type n) (.ref C) = some false
/-- a thing that is no number -/
structure Odd (K : Fg) (C : Addr) (H : Hp) (x : V) : Prop where
  ex : ∃ n ∈ ["NoneType", "bool", "str", "list", "tuple", "dict"], TyX K H x (.type n)
theorem isB_ty {H : Hp} {x : V} (ty : TyX K H x (.type "bool")) : isB x = true := by
  generalize ht : Value.type "bool" = t at ty
  have nb : ∀ n : String, n ≠ "bool" → Value.type "bool" ≠ .type n := fun n h z => h (by injection z with z; exact z.symm)
  cases ty with
  | base b => cases b <;> first | rfl | exact absurd ht (nb _ (by decide)) | cases ht
  | _ => first | exact absurd ht (nb _ (by decide)) | cases ht
theorem Odd.tyn {H : Hp} {x : V} (o : Odd K C H x) (T : RatO K C) : TyN K C H x false false := by
  obtain ⟨n, hn, ty⟩ := o.ex
  have hk := T.ko n hn
  simp only [List.mem_cons, List.not_mem_nil, or_false] at hn
  rcases hn with rfl | rfl | rfl | rfl | rfl | rfl
  · exact ⟨_, false, ty, kit_ty (by decide +kernel), rfl, hk⟩
  · exact ⟨_, true, ty, kit_ty (by decide +kernel), by rw [isB_ty ty]; rfl, hk⟩
  · exact ⟨_, false, ty, kit_ty (by decide +kernel), rfl, hk⟩
  · exact ⟨_, false, ty, kit_ty (by decide +kernel), rfl, hk⟩
  · exact ⟨_, false, ty, kit_ty (by decide +kernel), rfl, hk⟩
  · exact ⟨_, false, ty, kit_ty (by decide +kernel), rfl, hk⟩
theorem Odd.right {H : Hp} {x : V} (o : Odd K C H x) (T : RatO K C) : Right K C H x := by
  obtain ⟨n, hn, ty⟩ := o.ex
  exact .inr ⟨n, ty, T.so n hn⟩
/-! ## Ratio and its kin with what they refuse -/
/-- an exception with the value v is let out -/
def InvX (C : Addr) (H : Hp) (E : XK) (v : V) : Prop := ∀ d H', H d = none → Ex H H' → H' d = some (.xd [("value", v)]) → E (.ref C) (some d) H'
theorem InvX.up {C : Addr} {H H1 : Hp} {E : XK} {v : V} (i : InvX C H E v) (e : Ex H H1) : InvX C H1 E v := fun d H' h1 e1 h2 => i d H' (Ex.free e h1) (Ex.trans e e1) h2
abbrev s_InvalidNumber_init : Stmt := inClass (top 3) 0
theorem sc_InvalidNumber_init : FnScope ["self", "value"] ["self", "value"] (defScope s_InvalidNumber_init) := ⟨rfl, rfl, rfl, by decide +kernel, rfl, by decide +kernel, by decide +kernel⟩
theorem ok_InvalidNumber_init {CN : Addr} (F : FnP K "__init__" "InvalidNumber.__init__" s_InvalidNumber_init [] f fd) (T : OexC K CN) (no : PySem.W.findIn K (.ref CN) "value" = some none) : FnX P w K mg base 1 f fd ["self", "value"] (spField CN "value") := by
  refine F.ok sc_InvalidNumber_init (fun vs H Q E h => ?_) (fun cdv A outer s H vs Q E hr h => ?_)
  · obtain ⟨a, v, rfl, _⟩ := h
    rfl
  · obtain ⟨a, v, rfl, ha, k⟩ := h
    exact ⟨_, pss_one (ps_ost (pv 0) (pv 1)), _, rfl, _, rfl, a, CN, rfl, T, no, .inl ⟨ha, fun dx hd ne => k dx hd ne⟩⟩
def spRInitX (K : Fg) (C CZ CN : Addr) : Sp := fun vs H Q E => ∃ x dx t b, vs = [.ref x, t, b] ∧ H x = some (.ins C dx []) ∧ ((∃ n d, t = .int n ∧ b = .int d ∧ d ≠ 0 ∧ d.natAbs < 2 ^ 9000 ∧ Q .non (upd H x (.ins C dx (ratF (Rat.divInt n d))))) ∨ (∃ n, t = .int n ∧ b = .int 0 ∧ E (.ref CZ) none H) ∨
  (∃ rt, TyN K C H t false rt ∧ InvX CN H E t) ∨ ∃ n rt, t = .int n ∧ TyN K C H b false rt ∧ InvX CN H E b)
/-- what a quotient's parts are refused for -/
def spRInitR (K : Fg) (C CN : Addr) : Sp := fun vs H Q E => ∃ x dx t b, vs = [.ref x, t, b] ∧ H x = some (.ins C dx []) ∧ ((∃ rt, TyN K C H t false rt ∧ InvX CN H E t) ∨ ∃ n rt, t = .int n ∧ TyN K C H b false rt ∧ InvX CN H E b)
theorem ok_Ratio_initR {CN : Addr} (F : FnP K "__init__" "Ratio.__init__" s_Ratio_init [.int 1] f fd) (m_isinstance : mg "isinstance" = none) (m_int : mg "int" = none) (g_gcd : mg "gcd" = some (.builtin "math.gcd")) (v_num : ExcV P w K mg base "InvalidNumber" "value" CN) :
    FnX P w K mg base 3 f fd ["self", "top", "bottom"] (spRInitR K C CN) := by
  refine F.ok sc_Ratio_init (fun vs H Q E h => ?_) (fun cdv A outer s H vs Q E hr h => ?_)
  · obtain ⟨x, dx, t, b, rfl, _⟩ := h
    rfl
  · obtain ⟨x, dx, t, b, rfl, hx, k⟩ := h
    refine ⟨_, (pss_cons (ps_if (PW.pt (pw_or (pt_not (pt_val (pe_callB call_isi (by rfl) m_isinstance (by decide +kernel) (pa_cons (pv 1) (pa_cons (pe_bltn (v := .ty "int") (by rfl) m_int (by decide +kernel) rfl) pa_nil))))) (pw_or (pt_cmpR op_isAny (pv 1) pe_bl (nomark _)) (pw_or1 (pt_cmpR op_isAny (pv 1) pe_bl (nomark _)))))) (pss_one (ps_raiseV v_num (takes_of rfl rfl rfl rfl) (pv 1) (hr.mono (by decide)))) pss_nil)
      (pss_cons (ps_if (PW.pt (pw_or (pt_not (pt_val (pe_callB call_isi (by rfl) m_isinstance (by decide +kernel) (pa_cons (pv 2) (pa_cons (pe_bltn (v := .ty "int") (by rfl) m_int (by decide +kernel) rfl) pa_nil))))) (pw_or (pt_cmpR op_isAny (pv 2) pe_bl (nomark _)) (pw_or1 (pt_cmpR op_isAny (pv 2) pe_bl (nomark _)))))) (pss_one (ps_raiseV v_num (takes_of rfl rfl rfl rfl) (pv 2) (hr.mono (by decide)))) pss_nil)
      (pss_cons (ps_if (pt_cmpR op_eq (pv 2) pe_int (nomark _)) (pss_one ps_never) pss_nil)
      (pss_cons (ps_asg (pe_callBfun cr_gcd (by rfl) g_gcd (pa_cons (pv 1) (pa_cons (pv 2) pa_nil))) (pg_name (i := 3) sc_Ratio_init.nd rfl (.inl rfl)))
      (pss_cons (ps_if (pt_cmpR op_lt (pv 2) pe_int (nomark _)) (pss_one (ps_asg (pe_un un_neg (pv 3)) (pg_name (i := 3) sc_Ratio_init.nd rfl (.inl rfl)))) pss_nil)
      (pss_one (ps_if (pt_cmpR op_eq (pv 3) pe_int (nomark _)) (pss_cons (ps_fld (pv 0) (pv 1) rfl)
      (pss_one (ps_fld (pv 0) (pv 2) rfl))) (pss_cons (ps_fld (pv 0) (pe_op op_divA (pv 1) (pv 3)) rfl)
      (pss_one (ps_fld (pv 0) (pe_op op_divA (pv 2) (pv 3)) rfl)))))))))), ?_⟩
    rcases k with ⟨rt, ty, i⟩ | ⟨n, rt, rfl, ty, i⟩
    · obtain ⟨t', bi, tx, h1, e, h3⟩ := ty.ex
      refine ⟨_, rfl, t, .ty "int", t', _, bi, rfl, .ty _, tx, h1, bi, rfl, ?_⟩
      cases bi with
      | false => exact iteT (iteT ⟨_, rfl, raiseV i⟩)
      | true =>
        cases t with
        | bl v =>
          cases v with
          | true => exact iteF ⟨_, rfl, true, rfl, true, rfl, iteT (iteT ⟨_, rfl, raiseV i⟩)⟩
          | false => exact iteF ⟨_, rfl, true, rfl, false, rfl, iteF ⟨_, rfl, false, rfl, true, rfl, iteT ⟨_, rfl, raiseV i⟩⟩⟩
        | _ => cases e
    · refine ⟨_, rfl, .int n, .ty "int", .type "int", _, true, rfl, .ty _, (.base (.int _)), int_kit, true, rfl, iteF ⟨_, rfl, true, rfl, false, rfl, iteF ⟨_, rfl, false, rfl, false, rfl, iteF ?_⟩⟩⟩
      obtain ⟨t', bi, tx, h1, e, h3⟩ := ty.ex
      refine ⟨_, rfl, b, .ty "int", t', _, bi, rfl, .ty _, tx, h1, bi, rfl, ?_⟩
      cases bi with
      | false => exact iteT (iteT ⟨_, rfl, raiseV i⟩)
      | true =>
        cases b with
        | bl v =>
          cases v with
          | true => exact iteF ⟨_, rfl, true, rfl, true, rfl, iteT (iteT ⟨_, rfl, raiseV i⟩)⟩
          | false => exact iteF ⟨_, rfl, true, rfl, false, rfl, iteF ⟨_, rfl, false, rfl, true, rfl, iteT ⟨_, rfl, raiseV i⟩⟩⟩
        | _ => cases e
theorem ok_Ratio_initX {CN : Addr} (F : FnP K "__init__" "Ratio.__init__" s_Ratio_init [.int 1] f fd) (T : RatC K C) (m_isinstance : mg "isinstance" = none) (m_int : mg "int" = none) (g_gcd : mg "gcd" = some (.builtin "math.gcd")) (z_ByZero : ExcC K mg "ByZero" CZ) (v_num : ExcV P w K mg base "InvalidNumber" "value" CN) :
    FnX P w K mg base 3 f fd ["self", "top", "bottom"] (spRInitX K C CZ CN) := by
  refine ((ok_Ratio_init (CZ := CZ) F T m_isinstance m_int g_gcd z_ByZero).or (ok_Ratio_initR (C := C) F m_isinstance m_int g_gcd v_num)).imp fun vs H Q E h => ?_
  obtain ⟨x, dx, t, b, rfl, hx, ⟨n, d, rfl, rfl, hd, hs, k⟩ | ⟨n, rfl, rfl, k⟩ | k⟩ := h
  · exact .inl ⟨x, dx, n, d, rfl, hx, .inl ⟨hd, hs, k⟩⟩
  · exact .inl ⟨x, dx, n, 0, rfl, hx, .inr ⟨rfl, k⟩⟩
  · exact .inr ⟨x, dx, t, b, rfl, hx, k⟩
theorem init_of {CN : Addr} {vs : List V} {H : Hp} {Q : VK} {E : XK} (h : spRInit C CZ vs H Q E) : spRInitX K C CZ CN vs H Q E := by
  obtain ⟨x, dx, n, d, rfl, hx, k⟩ := h
  rcases k with ⟨hd, hs, k⟩ | ⟨rfl, k⟩
  · exact ⟨x, dx, _, _, rfl, hx, .inl ⟨n, d, rfl, rfl, hd, hs, k⟩⟩
  · exact ⟨x, dx, _, _, rfl, hx, .inr (.inl ⟨n, rfl, rfl, k⟩)⟩
/-- as_ratio of any value -/
def spAsRatioX (K : Fg) (C CN : Addr) : Sp := fun vs H Q E => ∃ x, vs = [x] ∧ ((∃ q, NumAt C H x q ∧ ∀ b H', Ex H H' → RatAt C H' b q → Q (.ref b) H') ∨ (TyN K C H x false false ∧ InvX CN H E x))
theorem ok_as_ratioX {CN : Addr} (F : FnP K "as_ratio" "as_ratio" s_as_ratio [] f fd) (T : RatC K C) (m_isinstance : mg "isinstance" = none) (g_Ratio : mg "Ratio" = some (.ref C)) (k_Ratio1 : Maker P w K mg base 3 "Ratio" C ["self", "top", "bottom"] [.int 1] (spRInitX K C CZ CN)) :
    FnX P w K mg base 5 f fd ["number"] (spAsRatioX K C CN) := by
  refine F.ok sc_as_ratio (fun vs H Q E h => ?_) (fun cdv A outer s H vs Q E hr h => ?_)
  · obtain ⟨x, rfl, _⟩ := h
    rfl
  · obtain ⟨x, rfl, h⟩ := h
    refine ⟨_, (pss_cons (ps_if (pt_val (pe_callB call_isi (by rfl) m_isinstance (by decide +kernel) (pa_cons (pv 0) (pa_cons (pe_glob (v := .ref C) (by rfl) g_Ratio rfl) pa_nil)))) (pss_one (ps_ret (pv 0))) pss_nil)
      (pss_one (ps_ret (pe_maker k_Ratio1 (hr.mono (by decide)) (passes_call (takes_of rfl rfl rfl rfl) fun _ _ _ _ h => h) (pa_cons (pv 0) pa_nil))))), ?_⟩
    rcases h with ⟨q, num, k⟩ | ⟨ty, i⟩
    · rcases num with ⟨i, rfl, rfl⟩ | ⟨a, rfl, r⟩
      · refine ⟨_, rfl, .int i, .ref C, .type "int", _, false, rfl, .own C, .base (.int i), T.ki, false, rfl, iteF ?_⟩
        refine ⟨_, rfl, fun p dx hp hdx ne => init_of (mk_rat (by decide) (by decide) (fun p H' _ e r => k p H' e ?_) p dx hp hdx ne)⟩
        rw [int_eq] at r
        exact r
      · refine ⟨_, rfl, .ref a, .ref C, .ref C, _, true, rfl, .own C, T.ty r, T.cc, true, rfl, iteT ?_⟩
        exact ⟨_, rfl, k a H Ex.rfl r⟩
    · obtain ⟨t, bi, tx, h1, e, h3⟩ := ty.ex
      refine ⟨_, rfl, x, .ref C, t, _, false, rfl, .own C, tx, h3, false, rfl, iteF ?_⟩
      refine ⟨_, rfl, fun p dx hp hdx ne => ⟨p, dx, x, .int 1, rfl, upd_same, .inr (.inr (.inl ⟨false, TyN_grow ty ((Ex.new hdx).mut hp), i.up ((Ex.new hdx).mut hp)⟩))⟩⟩
theorem ok_as_ratio_of {CN : Addr} {vs : List V} {H : Hp} {Q : VK} {E : XK} (h : spAsRatio C vs H Q E) : spAsRatioX K C CN vs H Q E := by
  obtain ⟨x, q, rfl, num, k⟩ := h
  exact ⟨x, rfl, .inl ⟨q, num, k⟩⟩
/-- is it a list or a tuple: of any value -/
def spIsListX (K : Fg) : Sp := fun vs H Q _ => ∃ x t b, vs = [x] ∧ TyX K H x t ∧ PySem.W.kitAny K t [.type "list", .type "tuple"] = some b ∧ ∀ H', Ex H H' → Q (.bl b) H'
theorem ok_is_listX (F : FnP K "is_list" "is_list" s_is_list [] f fd) (m_isinstance : mg "isinstance" = none) (m_list : mg "list" = none) (m_tuple : mg "tuple" = none) : FnX P w K mg base 1 f fd ["value"] (spIsListX K) := by
  refine F.ok sc_is_list (fun vs H Q E h => ?_) (fun cdv A outer s H vs Q E hr h => ?_)
  · obtain ⟨x, t, b, rfl, _⟩ := h
    rfl
  · obtain ⟨x, t, b, rfl, ty, hk, k⟩ := h
    refine ⟨_, (pss_one (ps_ret (pe_callB call_isiT (by rfl) m_isinstance (by decide +kernel) (pa_cons (pv 0) (pa_cons (pe_tup (pa_cons (pe_bltn (v := .ty "list") (by rfl) m_list (by decide +kernel) rfl) (pa_cons (pe_bltn (v := .ty "tuple") (by rfl) m_tuple (by decide +kernel) rfl) pa_nil))) pa_nil))))), ?_⟩
    exact ⟨_, rfl, (by show 2 ≤ sizeLine; decide), fun p hp => ⟨_, p, _, t, _, b, rfl, upd_same, .cons (.ty _) (.cons (.ty _) .nil), TyX_new ty hp, hk, k _ (Ex.new hp)⟩⟩
/-- a value that is not a list of numbers alone: no list, or one with a thing in it that is no number -/
def BadList (K : Fg) (C : Addr) (H : Hp) (x : V) : Prop := (∃ t, TyX K H x t ∧ PySem.W.kitAny K t [.type "list", .type "tuple"] = some false) ∨
  ∃ l xs, x = .ref l ∧ SqX K H l xs ∧ xs.length ≤ 6000 ∧ (∀ (i : Nat) v, xs[i]? = some v → ∃ wh rt, TyN K C H v wh rt) ∧ ∃ (i : Nat) (v : V), xs[i]? = some v ∧ TyN K C H v false false ∧ ∀ (j : Nat) u, j < i → xs[j]? = some u → ∃ q, NumAt C H u q
theorem bools_of : ∀ {vs : List V}, (∀ (i : Nat) v, vs[i]? = some v → ∃ b, v = V.bl b) → ∃ bs : List Bool, vs = bs.map V.bl
  | [], _ => ⟨[], rfl⟩
  | v :: vs, h => by
    obtain ⟨b, e⟩ := h 0 v rfl
    obtain ⟨bs, es⟩ := bools_of (vs := vs) fun i u e => h (i + 1) u e
    exact ⟨b :: bs, by rw [e, es]; rfl⟩
/-- numbers, or an exception -/
def spCheckX (K : Fg) (C CN : Addr) : Sp := fun vs H Q E => ∃ x, vs = [x] ∧ ((∃ l xs qs, x = .ref l ∧ SqX K H l xs ∧ NumsAt C H xs qs ∧ xs.length ≤ 6000 ∧ ∀ H', Ex H H' → Q .non H') ∨ (BadList K C H x ∧ InvX CN H E x))
theorem ok_check_numbersX {CN : Addr} (F : FnP K "_check_numbers" "_check_numbers" s__check_numbers [] f fd) (T : RatC K C) (c_is_list : Callee P w K mg base 1 "is_list" ["value"] (spIsListX K)) (c_is_number : Callee P w K mg base 2 "is_number" ["value"] (spNumber K C)) (m_all : mg "all" = none)
    (v_num : ExcV P w K mg base "InvalidNumber" "value" CN) : FnX P w K mg base 4 f fd ["numbers"] (spCheckX K C CN) := by
  refine F.ok sc__check_numbers (fun vs H Q E h => ?_) (fun cdv A outer s H vs Q E hr h => ?_)
  · obtain ⟨x, rfl, _⟩ := h
    rfl
  · obtain ⟨x, rfl, h⟩ := h
    refine ⟨_, (pss_one (ps_if (PW.pt (pw_or (pt_not (pt_val (pe_callee c_is_list (hr.mono (by decide)) (pa_cons (pv 0) pa_nil)))) (pw_or1 (pt_not (pt_val (pe_callB (cr_all rfl) (by rfl) m_all (by decide +kernel) (pa_cons (pe_lc (own := [("number", 1)]) (g := gName 1) (by rfl) sc__check_numbers.nd (pi_either (pi_list (pv 0)) (pi_tup (pv 0))) (blkOk_by (own := [("number", 1)]) (N := ["numbers", "number"]) (sc := defScope s__check_numbers) (by decide +kernel)) (fun _ _ _ _ _ => (pg_name (i := 1) sc__check_numbers.nd rfl (Or.inl rfl))) (fun _ _ _ _ _ => pts_nil) (fun _ _ _ _ _ => (pe_callee c_is_number (hr.mono (by decide)) (pa_cons (pv 1) pa_nil)))) pa_nil))))))) (pss_one (ps_raiseV v_num (takes_of rfl rfl rfl rfl) (pv 0) (hr.mono (by decide)))) pss_nil)), ?_⟩
    rcases h with ⟨l, xs, qs, rfl, hx, hn, hz, k⟩ | ⟨⟨t, ty, hk⟩ | ⟨l, xs, rfl, hx, hz, hall, i0, v0, hi0, ty0, hbef⟩, i⟩
    · obtain ⟨t, ty, hk⟩ := seqTy hx
      refine ⟨_, rfl, .ref l, t, true, rfl, ty, hk, fun H1 e1 => ⟨true, rfl, iteF ?_⟩⟩
      have hx1 := hx.ex e1
      have hn1 := hn.ex e1
      have step : ∀ i (x : V) H', Ex H1 H' → xs[i]? = some x → ∀ Q : VK, (∀ v H2, Ex H' H2 → v = V.bl true → Q v H2) → tCall (spNumber K C) [] E0 (tCons (tVar 1) tNil) [some (.ref l), some x] H' Q := fun i x H' e hi Q q => by
        obtain ⟨r, _, hr⟩ := (hn1.ex e).at hi
        obtain ⟨wh, rt, ty, et⟩ := T.num hr
        exact ⟨_, rfl, _, _, _, rfl, ty, by rw [et]; exact q _ _ Ex.rfl rfl⟩
      have fin : ∀ (bs : List V), (∀ (i : Nat) v, bs[i]? = some v → v = .bl true) → bs = (List.replicate bs.length true).map V.bl := fun bs hv => by
        rw [List.map_replicate]
        exact List.eq_replicate_iff.mpr ⟨rfl, fun v hm => (List.getElem?_of_mem hm).elim fun i hi => hv i v hi⟩
      rcases hx1 with hx1 | hx1
      · refine .inl ⟨_, rfl, l, rfl, ⟨xs, hx1⟩, fun D hD => lc_rel (fun _ v _ => v = .bl true) (fun _ _ _ _ _ h => h) (fun _ _ _ _ _ _ h => h) hD hx1 (by omega) (fun _ => rfl) step fun bs H2 e2 hb hl hv => ?_⟩
        exact ⟨D, List.replicate bs.length true, rfl, by rw [← fin bs hv]; exact SqL.of hb, true, by simp, iteF (k H2 (e1.trans e2))⟩
      · refine .inr ⟨_, rfl, l, rfl, ⟨xs, hx1⟩, fun D hD => lc_relT (fun _ v _ => v = .bl true) (fun _ _ _ _ _ h => h) (fun _ _ _ _ _ _ h => h) hD hx1 (by omega) (fun _ => rfl) step fun bs H2 e2 hb hl hv => ?_⟩
        exact ⟨D, List.replicate bs.length true, rfl, by rw [← fin bs hv]; exact SqL.of hb, true, by simp, iteF (k H2 (e1.trans e2))⟩
    · exact ⟨_, rfl, x, t, false, rfl, ty, hk, fun H1 e1 => ⟨false, rfl, iteT (iteT ⟨_, rfl, raiseV (i.up e1)⟩)⟩⟩
    · obtain ⟨t, ty, hk⟩ := seqTy hx
      refine ⟨_, rfl, .ref l, t, true, rfl, ty, hk, fun H1 e1 => ⟨true, rfl, iteF ?_⟩⟩
      have hx1 := hx.ex e1
      have step : ∀ j (x : V) H', Ex H1 H' → xs[j]? = some x → ∀ Q : VK, (∀ v H2, Ex H' H2 → (∃ b, v = V.bl b ∧ (j = i0 → b = false)) → Q v H2) → tCall (spNumber K C) [] E0 (tCons (tVar 1) tNil) [some (.ref l), some x] H' Q := fun j x H' e hj Q q => by
        by_cases h0 : j = i0
        · subst h0
          rw [hi0] at hj
          cases hj
          exact ⟨_, rfl, _, _, _, rfl, TyN_grow ty0 (e1.trans e), q _ _ Ex.rfl ⟨_, rfl, fun _ => rfl⟩⟩
        · obtain ⟨wh, rt, ty⟩ := hall j x hj
          exact ⟨_, rfl, _, _, _, rfl, TyN_grow ty (e1.trans e), q _ _ Ex.rfl ⟨_, rfl, fun z => absurd z h0⟩⟩
      have fin : ∀ bs : List V, bs.length = xs.length → (∀ (j : Nat) v, bs[j]? = some v → ∃ b, v = V.bl b ∧ (j = i0 → b = false)) → ∃ cs : List Bool, bs = cs.map V.bl ∧ cs.all id = false := fun bs hl hv => by
        obtain ⟨cs, e⟩ := bools_of fun j v hj => (hv j v hj).elim fun b h => ⟨b, h.1⟩
        refine ⟨cs, e, ?_⟩
        have li : i0 < cs.length := by
          have h1 := (List.getElem?_eq_some_iff.mp hi0).1
          rw [e, List.length_map] at hl
          omega
        have c0 : cs[i0] = false := by
          obtain ⟨b, eb, hb⟩ := hv i0 (.bl cs[i0]) (by rw [e, List.getElem?_map, List.getElem?_eq_getElem li]; rfl)
          cases eb
          exact hb rfl
        exact List.all_eq_false.mpr ⟨cs[i0], List.getElem_mem li, by rw [c0]; decide⟩
      rcases hx1 with hx1 | hx1
      · refine .inl ⟨_, rfl, l, rfl, ⟨xs, hx1⟩, fun D hD => lc_rel (fun j v _ => ∃ b, v = V.bl b ∧ (j = i0 → b = false)) (fun _ _ _ _ _ h => h) (fun _ _ _ _ _ _ h => h) hD hx1 (by omega) (fun _ => rfl) step fun bs H2 e2 hb hl hv => ?_⟩
        obtain ⟨cs, ec, ha⟩ := fin bs hl hv
        exact ⟨D, cs, rfl, by rw [← ec]; exact SqL.of hb, false, congrArg V.bl ha, iteT ⟨_, rfl, raiseV (i.up (e1.trans e2))⟩⟩
      · refine .inr ⟨_, rfl, l, rfl, ⟨xs, hx1⟩, fun D hD => lc_relT (fun j v _ => ∃ b, v = V.bl b ∧ (j = i0 → b = false)) (fun _ _ _ _ _ h => h) (fun _ _ _ _ _ _ h => h) hD hx1 (by omega) (fun _ => rfl) step fun bs H2 e2 hb hl hv => ?_⟩
        obtain ⟨cs, ec, ha⟩ := fin bs hl hv
        exact ⟨D, cs, rfl, by rw [← ec]; exact SqL.of hb, false, congrArg V.bl ha, iteT ⟨_, rfl, raiseV (i.up (e1.trans e2))⟩⟩
/-- what the functions over lists refuse -/
def spBadL (K : Fg) (C CN : Addr) : Sp := fun vs H Q E => ∃ x, vs = [x] ∧ BadList K C H x ∧ InvX CN H E x
def spBadS (K : Fg) (C CN : Addr) : Sp := fun vs H Q E => ∃ x, vs = [x] ∧ (BadList K C H x ∨ ∃ l, x = .ref l ∧ SqX K H l []) ∧ InvX CN H E x
theorem ok_check_someX {CN : Addr} (F : FnP K "_check_some_numbers" "_check_some_numbers" s__check_some_numbers [] f fd) (x__check_numbers : Callee P w K mg base 4 "_check_numbers" ["numbers"] (spCheckX K C CN)) (m_len : mg "len" = none) (v_num : ExcV P w K mg base "InvalidNumber" "value" CN) :
    FnX P w K mg base 5 f fd ["numbers"] (spBadS K C CN) := by
  refine F.ok sc__check_some_numbers (fun vs H Q E h => ?_) (fun cdv A outer s H vs Q E hr h => ?_)
  · obtain ⟨x, rfl, _⟩ := h
    rfl
  · obtain ⟨x, rfl, h, i⟩ := h
    refine ⟨_, (pss_cons (ps_expr (pe_calleeE x__check_numbers (hr.mono (by decide)) (passes_call (takes_of rfl rfl rfl rfl) fun _ _ _ _ h => h) (pa_cons (pv 0) pa_nil)))
      (pss_one (ps_if (pt_cmpR op_eq (pe_callB call_len (by rfl) m_len (by decide +kernel) (pa_cons (pv 0) pa_nil)) pe_int (nomark _)) (pss_one (ps_raiseV v_num (takes_of rfl rfl rfl rfl) (pv 0) (hr.mono (by decide)))) pss_nil))), ?_⟩
    rcases h with h | ⟨l, rfl, hx⟩
    · exact ⟨_, rfl, x, rfl, .inr ⟨h, i⟩⟩
    · refine ⟨_, rfl, .ref l, rfl, .inl ⟨l, [], [], rfl, hx, ⟨rfl, fun i v q a => by simp at a⟩, by decide, fun H1 e1 => ?_⟩⟩
      exact ⟨_, rfl, .ref l, 0, rfl, seqLen (hx.ex e1), rfl, _, rfl, iteT ⟨_, rfl, raiseV (i.up e1)⟩⟩
/-- what total has gathered ahead of the thing that it refuses -/
def GotX (l D : Addr) (H1 : Hp) (i : Nat) (σ' : L2.St) (H' : Hp) : Prop := Ex H1 H' ∧ ∃ (w : Int) (rs : List V) (v : Option V), σ' = [some (.ref l), some (.int w), some (.ref D), v, none, none] ∧ H' D = some (.lst rs) ∧ rs.length ≤ i
theorem ok_totalX {CN : Addr} (F : FnP K "total" "total" s_total [] f fd) (T : RatC K C) (c_is_list : Callee P w K mg base 1 "is_list" ["value"] (spIsListX K)) (m_isinstance : mg "isinstance" = none) (m_int : mg "int" = none) (g_Ratio : mg "Ratio" = some (.ref C))
    (c_common_bottom : Callee P w K mg base 5 "common_bottom" ["numbers"] (spCommon K C)) (k_Ratio2 : Maker P w K mg base 2 "Ratio" C ["self", "top", "bottom"] [] (spRInit C CZ)) (k_Ratio1 : Maker P w K mg base 2 "Ratio" C ["self", "top", "bottom"] [.int 1] (spRInit C CZ)) (m_sum : mg "sum" = none)
    (v_num : ExcV P w K mg base "InvalidNumber" "value" CN) : FnX P w K mg base 6 f fd ["numbers"] (spBadL K C CN) := by
  refine F.ok sc_total (fun vs H Q E h => ?_) (fun cdv A outer s H vs Q E hr h => ?_)
  · obtain ⟨x, rfl, _⟩ := h
    rfl
  · obtain ⟨x, rfl, h, i⟩ := h
    refine ⟨_, (pss_cons (ps_if (pt_not (pt_val (pe_callee c_is_list (hr.mono (by decide)) (pa_cons (pv 0) pa_nil)))) (pss_one (ps_raiseV v_num (takes_of rfl rfl rfl rfl) (pv 0) (hr.mono (by decide)))) pss_nil)
      (pss_cons (ps_asg pe_int (pg_name (i := 1) sc_total.nd rfl (.inl rfl)))
      (pss_cons (ps_asg (pe_lst pa_nil) (pg_name (i := 2) sc_total.nd rfl (.inl rfl)))
      (pss_cons (ps_for (passes_of rfl) rfl (pi_either (pi_list (pv 0)) (pi_tup (pv 0))) (pg_name (i := 3) sc_total.nd rfl (.inl rfl)) (pss_one (ps_if (pt_val (pe_callB call_isi (by rfl) m_isinstance (by decide +kernel) (pa_cons (pv 3) (pa_cons (pe_glob (v := .ref C) (by rfl) g_Ratio rfl) pa_nil)))) (pss_one (ps_expr (pe_bm PySem.F.plainAttrs_list PySem.F.slot_list_append PySem.F.type_list_append mt_append (pv 2) (pa_cons (pv 3) pa_nil)))) (pss_one (ps_if (PW.pt (pw_and (pt_val (pe_callB call_isi (by rfl) m_isinstance (by decide +kernel) (pa_cons (pv 3) (pa_cons (pe_bltn (v := .ty "int") (by rfl) m_int (by decide +kernel) rfl) pa_nil)))) (pw_and (pt_cmpR op_notAny (pv 3) pe_bl (nomark _)) (pw_and1 (pt_cmpR op_notAny (pv 3) pe_bl (nomark _)))))) (pss_one (ps_aug (i := 1) sc_total.nd rfl (.inl rfl) (pv 3) ip_add)) (pss_one (ps_raiseV v_num (takes_of rfl rfl rfl rfl) (pv 0) (hr.mono (by decide)))))))))
      (pss_cons (ps_if (pt_not (pt_truth (pv 2) (by intro _; rfl))) (pss_one (ps_ret (pe_maker k_Ratio1 (hr.mono (by decide)) passL (pa_cons (pv 1) pa_nil)))) pss_nil)
      (pss_cons (ps_asg (pe_callee c_common_bottom (hr.mono (by decide)) (pa_cons (pv 2) pa_nil)) (pg_name (i := 4) sc_total.nd rfl (.inr rfl)))
      (pss_one (ps_ret (pe_maker k_Ratio2 (hr.mono (by decide)) passL (pa_cons (pe_op op_add (pe_op op_mulW (pv 1) (pv 4)) (pe_callB (cr_sum rfl) (by rfl) m_sum (by decide +kernel) (pa_cons (pe_lc (own := [("part", 5)]) (g := gName 5) (by rfl) sc_total.nd (pi_list (pv 2)) (blkOk_by (own := [("part", 5)]) (N := ["numbers", "whole", "quotients", "number", "bottom", "part"]) (sc := defScope s_total) (by decide +kernel)) (fun _ _ _ _ _ => (pg_name (i := 5) sc_total.nd rfl (Or.inl rfl))) (fun _ _ _ _ _ => pts_nil) (fun _ _ _ _ _ => (pe_op op_mulW (pe_fldB (pv 5) rfl) (pe_op op_divA (pv 4) (pe_fldB (pv 5) rfl))))) pa_nil))) (pa_cons (pv 4) pa_nil))))))))))), ?_⟩
    rcases h with ⟨t, ty, hk⟩ | ⟨l, xs, rfl, hx, hz, hall, i0, v0, hi0, ty0, hbef⟩
    · exact ⟨_, rfl, x, t, false, rfl, ty, hk, fun H1 e1 => ⟨false, rfl, iteT ⟨_, rfl, raiseV (i.up e1)⟩⟩⟩
    · obtain ⟨t, ty, hk⟩ := seqTy hx
      refine ⟨_, rfl, .ref l, t, true, rfl, ty, hk, fun H1 e1 => ⟨true, rfl, iteF ?_⟩⟩
      refine ⟨(by show 0 ≤ sizeLine; decide), fun D hD => ?_⟩
      have eD : Ex H1 (upd H1 D (.lst [])) := Ex.new hD
      refine for_seq (a := l) (xs := xs) rfl (hx.ex e1) (fun j σ' H' => j ≤ i0 ∧ GotX l D H1 j σ' H') ⟨Nat.zero_le _, eD, 0, [], none, rfl, upd_same, Nat.le_refl _⟩ (fun _ _ _ q => q.2.1) (fun j x σ' H' hj q => ?_) fun σ' H' q => ?_
      · obtain ⟨hle, e, w, rs, v, rfl, hDr, hri⟩ := q
        have hj' : j < 6000 := by have := (List.getElem?_eq_some_iff.mp hj).1; omega
        rcases Nat.lt_or_ge j i0 with hlt | hge
        · obtain ⟨q, hn⟩ := hbef j x hlt hj
          rcases hn with ⟨m, rfl, rfl⟩ | ⟨b, rfl, hb0⟩
          · refine ⟨_, rfl, .int m, .ref C, .type "int", _, false, rfl, .own C, .base (.int m), T.ki, false, rfl, iteF ?_⟩
            refine ⟨_, rfl, .int m, .ty "int", .type "int", _, true, rfl, .ty _, (.base (.int _)), int_kit, true, rfl, iteT ⟨_, rfl, true, rfl, true, rfl, iteT ⟨_, rfl, false, rfl, true, rfl, iteT ?_⟩⟩⟩
            exact ⟨_, rfl, _, rfl, _, _, rfl, rfl, hlt, e, _, rs, _, rfl, hDr, by omega⟩
          · have hb := hb0.ex (e1.trans e)
            refine ⟨_, rfl, .ref b, .ref C, .ref C, _, true, rfl, .own C, T.ty hb, T.cc, true, rfl, iteT ?_⟩
            exact ⟨_, rfl, .inl ⟨rfl, _, SqL.of hDr⟩, _, rfl, D, rs, .ref b, rfl, rfl, hDr, len_line (by omega), hlt, e.mut hD, w, rs ++ [.ref b], _, rfl, upd_same, by rw [List.length_append]; simp; omega⟩
        · have hE : j = i0 := by omega
          subst hE
          rw [hi0] at hj
          cases hj
          obtain ⟨t', bi, tx, h1, e', h3⟩ := (TyN_grow ty0 (e1.trans e)).ex
          refine ⟨_, rfl, v0, .ref C, t', _, false, rfl, .own C, tx, h3, false, rfl, iteF ?_⟩
          refine ⟨_, rfl, v0, .ty "int", t', _, bi, rfl, .ty _, tx, h1, bi, rfl, ?_⟩
          have ii := i.up (e1.trans e)
          cases bi with
          | false => exact iteF ⟨_, rfl, raiseV ii⟩
          | true =>
            cases v0 with
            | bl v =>
              cases v with
              | true => exact iteT ⟨_, rfl, true, rfl, false, rfl, iteF ⟨_, rfl, raiseV ii⟩⟩
              | false => exact iteT ⟨_, rfl, true, rfl, true, rfl, iteT ⟨_, rfl, false, rfl, false, rfl, iteF ⟨_, rfl, raiseV ii⟩⟩⟩
            | _ => cases e'
      · have := (List.getElem?_eq_some_iff.mp hi0).1
        have := q.1
        omega
theorem ok_leastX {CN : Addr} (F : FnP K "least" "least" s_least [] f fd) (x__check_some_numbers : Callee P w K mg base 5 "_check_some_numbers" ["numbers"] (spBadS K C CN)) (c_is_below : Callee P w K mg base 3 "is_below" ["one", "other"] (spIsBelow C))
    (m_range : mg "range" = none) (m_len : mg "len" = none) : FnX P w K mg base 6 f fd ["numbers"] (spBadS K C CN) := by
  refine F.ok sc_least (fun vs H Q E h => ?_) (fun cdv A outer s H vs Q E hr h => ?_)
  · obtain ⟨x, rfl, _⟩ := h
    rfl
  · refine ⟨_, (pss_cons (ps_expr (pe_calleeE x__check_some_numbers (hr.mono (by decide)) (passes_call (takes_of rfl rfl rfl rfl) fun _ _ _ _ h => h) (pa_cons (pv 0) pa_nil)))
      (pss_cons (ps_asg pe_int (pg_name (i := 1) sc_least.nd rfl (.inl rfl)))
      (pss_cons (ps_for (passes_of rfl) rfl (pi_range2 (by rfl) m_range (pa_cons pe_int (pa_cons (pe_callB call_len (by rfl) m_len (by decide +kernel) (pa_cons (pv 0) pa_nil)) pa_nil))) (pg_name (i := 2) sc_least.nd rfl (.inl rfl)) (pss_one (ps_if (pt_truth (pe_callee c_is_below (hr.mono (by decide)) (pa_cons (pe_ix ix_seq (pv 0) (pv 2) (fun _ _ => rfl)) (pa_cons (pe_ix ix_seq (pv 0) (pv 1) (fun _ _ => rfl)) pa_nil))) (by intro _; rfl)) (pss_one (ps_asg (pv 2) (pg_name (i := 1) sc_least.nd rfl (.inl rfl)))) pss_nil)))
      (pss_one (ps_ret (pv 1)))))), ?_⟩
    obtain ⟨x, rfl, h, i⟩ := h
    exact ⟨_, rfl, x, rfl, h, i⟩
theorem ok_greatestX {CN : Addr} (F : FnP K "greatest" "greatest" s_greatest [] f fd) (x__check_some_numbers : Callee P w K mg base 5 "_check_some_numbers" ["numbers"] (spBadS K C CN)) (c_as_ratio : Callee P w K mg base 4 "as_ratio" ["number"] (spAsRatio C)) (o_Neg : NegOk P w K mg base 5 C (spNeg C))
    (c_least : Callee P w K mg base 6 "least" ["numbers"] (spLeast K C)) : FnX P w K mg base 7 f fd ["numbers"] (spBadS K C CN) := by
  refine F.ok sc_greatest (fun vs H Q E h => ?_) (fun cdv A outer s H vs Q E hr h => ?_)
  · obtain ⟨x, rfl, _⟩ := h
    rfl
  · refine ⟨_, (pss_cons (ps_expr (pe_calleeE x__check_some_numbers (hr.mono (by decide)) (passes_call (takes_of rfl rfl rfl rfl) fun _ _ _ _ h => h) (pa_cons (pv 0) pa_nil)))
      (pss_one (ps_ret (pe_callee c_least (hr.mono (by decide)) (pa_cons (pe_lc (own := [("number", 1)]) (g := gName 1) (by rfl) sc_greatest.nd (pi_either (pi_list (pv 0)) (pi_tup (pv 0))) (blkOk_by (own := [("number", 1)]) (N := ["numbers", "number"]) (sc := defScope s_greatest) (by decide +kernel)) (fun _ _ _ _ _ => (pg_name (i := 1) sc_greatest.nd rfl (Or.inl rfl))) (fun _ _ _ _ _ => pts_nil) (fun _ _ _ _ _ => (pe_un (un_ownNeg o_Neg (hr.mono (by decide))) (pe_callee c_as_ratio (hr.mono (by decide)) (pa_cons (pv 1) pa_nil))))) pa_nil))))), ?_⟩
    obtain ⟨x, rfl, h, i⟩ := h
    exact ⟨_, rfl, x, rfl, h, i⟩
/-! ## k03: what is refused -/
abbrev s__law_refused : Stmt := top 33
theorem sc__law_refused : FnScope ["_law_way", "_law_one", "_law_other", "e"] ["_law_way", "_law_one", "_law_other"] (defScope s__law_refused) := ⟨rfl, rfl, rfl, by decide +kernel, rfl, by decide +kernel, by decide +kernel⟩
/-- the call of kind way on one (and other) is refused with the value due -/
def Refused (K : Fg) (C : Addr) (H : Hp) (way : Int) (one other due : V) : Prop := (way = 0 ∧ ∃ rt, TyN K C H one false rt ∧ due = one) ∨ (way = 0 ∧ ∃ n rt, one = .int n ∧ TyN K C H other false rt ∧ due = other) ∨ (way = 1 ∧ TyN K C H one false false ∧ due = one) ∨
  (way = 2 ∧ BadList K C H one ∧ due = one) ∨ ((way = 3 ∨ way = 4) ∧ (BadList K C H one ∨ ∃ l, one = .ref l ∧ SqX K H l []) ∧ due = one)
def spRefused (K : Fg) (C : Addr) : Sp := fun vs H Q _ => ∃ way one other, vs = [.int way, one, other] ∧ ((∃ due, Refused K C H way one other due ∧ ∀ p H', Ex H H' → H p = none → H' p = some (.tup [.str "number", due]) → Q (.ref p) H') ∨ (way = 0 ∧ other = .int 0 ∧ (∃ n, one = .int n) ∧ ∀ p H', Ex H H' → H p = none → H' p = some (.tup [.str "zero"]) → Q (.ref p) H'))
theorem ok_refused {CN CW : Addr} (F : FnP K "_law_refused" "_law_refused" s__law_refused [] f fd) (T : RatC K C) (kx_Ratio2 : Maker P w K mg base 3 "Ratio" C ["self", "top", "bottom"] [] (spRInitX K C CZ CN)) (x_as_ratio : Callee P w K mg base 5 "as_ratio" ["number"] (spAsRatioX K C CN)) (x_total : Callee P w K mg base 6 "total" ["numbers"] (spBadL K C CN))
    (x_least : Callee P w K mg base 6 "least" ["numbers"] (spBadS K C CN)) (x_greatest : Callee P w K mg base 7 "greatest" ["numbers"] (spBadS K C CN)) (v_InvalidNumber : ExcV P w K mg base "InvalidNumber" "value" CN) (z_ByZero : ExcC K mg "ByZero" CZ) (z_WinError : ExcC K mg "WinError" CW)
    (nn : PySem.W.exmOne K (.ref CN) (.ref CN) = some true) (zn : PySem.W.exmOne K (.ref CZ) (.ref CN) = some false) (zz : PySem.W.exmOne K (.ref CZ) (.ref CZ) = some true) : FnX P w K mg base 8 f fd ["_law_way", "_law_one", "_law_other"] (spRefused K C) := by
  refine F.ok sc__law_refused (fun vs H Q E h => ?_) (fun cdv A outer s H vs Q E hr h => ?_)
  · obtain ⟨way, one, other, rfl, _⟩ := h
    rfl
  · obtain ⟨way, one, other, rfl, h⟩ := h
    refine ⟨_, (pss_cons (ps_try_mix rfl rfl sc__law_refused.nd (takes_of rfl rfl rfl rfl) (fun W pn xe tk _ => (pss_one (ps_if (pt_cmpR op_eq (pv 0) pe_int (nomark _)) (pss_one (ps_expr (pe_maker kx_Ratio2 (hr.mono (by decide)) (passes_len (E := fun cl dd hh => ∀ σσ : L2.St, σσ.length = 4 → W cl dd σσ hh) tk fun _ _ _ _ l h => h _ l) (pa_cons (pv 1) (pa_cons (pv 2) pa_nil))))) (pss_one (ps_if (pt_cmpR op_eq (pv 0) pe_int (nomark _)) (pss_one (ps_expr (pe_calleeE x_as_ratio (hr.mono (by decide)) (passes_len (E := fun cl dd hh => ∀ σσ : L2.St, σσ.length = 4 → W cl dd σσ hh) tk fun _ _ _ _ l h => h _ l) (pa_cons (pv 1) pa_nil)))) (pss_one (ps_if (pt_cmpR op_eq (pv 0) pe_int (nomark _)) (pss_one (ps_expr (pe_calleeE x_total (hr.mono (by decide)) (passes_len (E := fun cl dd hh => ∀ σσ : L2.St, σσ.length = 4 → W cl dd σσ hh) tk fun _ _ _ _ l h => h _ l) (pa_cons (pv 1) pa_nil)))) (pss_one (ps_if (pt_cmpR op_eq (pv 0) pe_int (nomark _)) (pss_one (ps_expr (pe_calleeE x_least (hr.mono (by decide)) (passes_len (E := fun cl dd hh => ∀ σσ : L2.St, σσ.length = 4 → W cl dd σσ hh) tk fun _ _ _ _ l h => h _ l) (pa_cons (pv 1) pa_nil)))) (pss_one (ps_expr (pe_calleeE x_greatest (hr.mono (by decide)) (passes_len (E := fun cl dd hh => ∀ σσ : L2.St, σσ.length = 4 → W cl dd σσ hh) tk fun _ _ _ _ l h => h _ l) (pa_cons (pv 1) pa_nil))))))))))))) (.named (i := 3) rfl rfl ⟨rfl, by decide, .inl v_InvalidNumber.g⟩ (fun a oe cls d pn hz hf => (pss_one (ps_ret (pe_tup (pa_cons pe_str (pa_cons (pe_xf v_InvalidNumber.xf v_InvalidNumber.no hz hf (pv 3)) pa_nil)))))) (.only ⟨rfl, by decide, .inl z_ByZero.g⟩ (fun a oe cls d pn _ _ => (pss_one (ps_ret (pe_tup (pa_cons pe_str pa_nil))))) (.only ⟨rfl, by decide, .inl z_WinError.g⟩ (fun a oe cls d pn _ _ => (pss_one (ps_ret (pe_tup (pa_cons pe_str pa_nil))))) .nil))))
      (pss_one (ps_ret pe_non))), ?_⟩
    have lk : ∀ v : V, ([("value", v)] : List (Str × V)).lookup ("value" : Str) = some v := fun v => by simp [List.lookup]
    rcases h with ⟨due, h, k⟩ | ⟨rfl, rfl, ⟨n, rfl⟩, k⟩
    · rcases h with ⟨rfl, rt, ty, rfl⟩ | ⟨rfl, n, rt, rfl, ty, rfl⟩ | ⟨rfl, ty, rfl⟩ | ⟨rfl, b, rfl⟩ | ⟨hw, b, rfl⟩
      · refine ⟨_, rfl, rfl, _, rfl, iteT ⟨_, rfl, _, rfl, fun p dx hp hdx ne => ⟨p, dx, due, other, rfl, upd_same, .inr (.inr (.inl ⟨rt, TyN_grow ty ((Ex.new hdx).mut hp), fun d H' hd e' hx σσ hl => ?_⟩))⟩⟩⟩
        have e2 : Ex H H' := Ex.trans ((Ex.new hdx).mut hp) e'
        exact ⟨true, nn, fun _ a ha => ⟨_, slot_at hl (by decide), rfl, rfl, d, _, due, rfl, hx, lk _, (by show 2 ≤ sizeLine; decide), fun q hq => k q _ (Ex.trans e2 (Ex.new hq)) (Ex.free e2 hq) upd_same⟩, fun z => nomatch z⟩
      · refine ⟨_, rfl, rfl, _, rfl, iteT ⟨_, rfl, _, rfl, fun p dx hp hdx ne => ⟨p, dx, .int n, due, rfl, upd_same, .inr (.inr (.inr ⟨n, rt, rfl, TyN_grow ty ((Ex.new hdx).mut hp), fun d H' hd e' hx σσ hl => ?_⟩))⟩⟩⟩
        have e2 : Ex H H' := Ex.trans ((Ex.new hdx).mut hp) e'
        exact ⟨true, nn, fun _ a ha => ⟨_, slot_at hl (by decide), rfl, rfl, d, _, due, rfl, hx, lk _, (by show 2 ≤ sizeLine; decide), fun q hq => k q _ (Ex.trans e2 (Ex.new hq)) (Ex.free e2 hq) upd_same⟩, fun z => nomatch z⟩
      · refine ⟨_, rfl, rfl, _, rfl, iteF ⟨_, rfl, rfl, _, rfl, iteT ⟨_, rfl, due, rfl, .inr ⟨ty, fun d H' hd e2 hx σσ hl => ?_⟩⟩⟩⟩
        exact ⟨true, nn, fun _ a ha => ⟨_, slot_at hl (by decide), rfl, rfl, d, _, due, rfl, hx, lk _, (by show 2 ≤ sizeLine; decide), fun q hq => k q _ (Ex.trans e2 (Ex.new hq)) (Ex.free e2 hq) upd_same⟩, fun z => nomatch z⟩
      · refine ⟨_, rfl, rfl, _, rfl, iteF ⟨_, rfl, rfl, _, rfl, iteF ⟨_, rfl, rfl, _, rfl, iteT ⟨_, rfl, due, rfl, b, fun d H' hd e2 hx σσ hl => ?_⟩⟩⟩⟩
        exact ⟨true, nn, fun _ a ha => ⟨_, slot_at hl (by decide), rfl, rfl, d, _, due, rfl, hx, lk _, (by show 2 ≤ sizeLine; decide), fun q hq => k q _ (Ex.trans e2 (Ex.new hq)) (Ex.free e2 hq) upd_same⟩, fun z => nomatch z⟩
      · rcases hw with rfl | rfl
        · refine ⟨_, rfl, rfl, _, rfl, iteF ⟨_, rfl, rfl, _, rfl, iteF ⟨_, rfl, rfl, _, rfl, iteF ⟨_, rfl, rfl, _, rfl, iteT ⟨_, rfl, due, rfl, b, fun d H' hd e2 hx σσ hl => ?_⟩⟩⟩⟩⟩
          exact ⟨true, nn, fun _ a ha => ⟨_, slot_at hl (by decide), rfl, rfl, d, _, due, rfl, hx, lk _, (by show 2 ≤ sizeLine; decide), fun q hq => k q _ (Ex.trans e2 (Ex.new hq)) (Ex.free e2 hq) upd_same⟩, fun z => nomatch z⟩
        · refine ⟨_, rfl, rfl, _, rfl, iteF ⟨_, rfl, rfl, _, rfl, iteF ⟨_, rfl, rfl, _, rfl, iteF ⟨_, rfl, rfl, _, rfl, iteF ⟨_, rfl, due, rfl, b, fun d H' hd e2 hx σσ hl => ?_⟩⟩⟩⟩⟩
          exact ⟨true, nn, fun _ a ha => ⟨_, slot_at hl (by decide), rfl, rfl, d, _, due, rfl, hx, lk _, (by show 2 ≤ sizeLine; decide), fun q hq => k q _ (Ex.trans e2 (Ex.new hq)) (Ex.free e2 hq) upd_same⟩, fun z => nomatch z⟩
    · refine ⟨_, rfl, rfl, _, rfl, iteT ⟨_, rfl, _, rfl, fun p dx hp hdx ne => ⟨p, dx, .int n, .int 0, rfl, upd_same, .inr (.inl ⟨n, rfl, rfl, fun σσ hl => ?_⟩)⟩⟩⟩
      have e2 : Ex H (upd (upd H dx (.own p)) p (.ins C dx [])) := (Ex.new hdx).mut hp
      exact ⟨false, zn, (fun z => nomatch z), fun _ => ⟨true, zz, fun _ a ha => ⟨(by show 1 ≤ sizeLine; decide), fun q hq => k q _ (Ex.trans e2 (Ex.new hq)) (Ex.free e2 hq) upd_same⟩, fun z => nomatch z⟩⟩
/-! ## odd things -/
abbrev s__law_odd_right : Stmt := top 34
theorem sc__law_odd_right : FnScope ["_law_bag_here", "_law_odd", "_law_good", "_law_one", "_law_other", "_law_due", "_law_way", "_law_some"] ["_law_bag_here"] (defScope s__law_odd_right) := ⟨rfl, rfl, rfl, by decide +kernel, rfl, by decide +kernel, by decide +kernel⟩
/-- equal to itself, whatever the heap -/
def Thing (x : V) : Prop := ∀ H, WB.DThing x x H
theorem thing_ref {a : Addr} : Thing (.ref a) := fun _ => .inr ⟨a, rfl, rfl⟩
theorem thing_flat {x : V} (h : flatV x = true) (e : eqV x x = true) : Thing x := fun _ => .inl ⟨h, h, e⟩
theorem BadList.grow {H H' : Hp} {x : V} (b : BadList K C H x) (e : Ex H H') : BadList K C H' x := by
  rcases b with ⟨t, ty, h⟩ | ⟨l, xs, ex, sx, hz, all, i, v, hi, ty, bef⟩
  · exact .inl ⟨t, TyX_grow ty e, h⟩
  · exact .inr ⟨l, xs, ex, SqX.ex sx e, hz, fun i v h => (all i v h).elim fun wh z => z.elim fun rt z => ⟨wh, rt, TyN_grow z e⟩, i, v, hi, TyN_grow ty e, fun j u h1 h2 => (bef j u h1 h2).elim fun q n => ⟨q, n.ex e⟩⟩
theorem Refused.grow {H H' : Hp} {way : Int} {one other due : V} (r : Refused K C H way one other due) (e : Ex H H') : Refused K C H' way one other due := by
  rcases r with ⟨h, rt, ty, d⟩ | ⟨h, n, rt, o, ty, d⟩ | ⟨h, ty, d⟩ | ⟨h, b, d⟩ | ⟨h, b, d⟩
  · exact .inl ⟨h, rt, TyN_grow ty e, d⟩
  · exact .inr (.inl ⟨h, n, rt, o, TyN_grow ty e, d⟩)
  · exact .inr (.inr (.inl ⟨h, TyN_grow ty e, d⟩))
  · exact .inr (.inr (.inr (.inl ⟨h, b.grow e, d⟩)))
  · exact .inr (.inr (.inr (.inr ⟨h, b.imp (fun b => b.grow e) (fun ⟨l, x, s⟩ => ⟨l, x, SqX.ex s e⟩), d⟩)))
theorem not_list {n : String} (h : n ∈ ["NoneType", "int", "str", "dict"]) : PySem.W.kitAny K (.type n) [.type "list", .type "tuple"] = some false := by
  simp only [List.mem_cons, List.not_mem_nil, or_false] at h
  rcases h with rfl | rfl | rfl | rfl <;> exact kitAny_cons (b := false) (kit_ty (by decide +kernel)) (fun _ => kitAny_cons (b := false) (kit_ty (by decide +kernel)) (fun _ => rfl) (fun z => nomatch z)) (fun z => nomatch z)
theorem eqv_nl : PyData.eqv (.tuple [.str "number", .list []]) (.tuple [.str "number", .list []]) = true := by simp [PyData.eqv, PyData.eqvAll]
theorem eqv_nt : PyData.eqv (.tuple [.str "number", .tuple []]) (.tuple [.str "number", .tuple []]) = true := by simp [PyData.eqv, PyData.eqvAll]
theorem bad1 {H : Hp} {l : Addr} {y : V} (s : SqX K H l [y]) (ty : TyN K C H y false false) : BadList K C H (.ref l) := .inr ⟨l, [y], rfl, s, by show 1 ≤ 6000; decide, fun i v e => by
  rcases i with _ | i
  · cases (show y = v from Option.some.inj e)
    exact ⟨_, _, ty⟩
  · simp at e, 0, y, rfl, ty, fun j u h => absurd h (Nat.not_lt_zero j)⟩
theorem bad2 {H : Hp} {l : Addr} {x y : V} {a b : Bool} {q : Rat} (s : SqX K H l [x, y]) (nx : NumAt C H x q) (tx : TyN K C H x a b) (ty : TyN K C H y false false) : BadList K C H (.ref l) := .inr ⟨l, [x, y], rfl, s, by show 2 ≤ 6000; decide, fun i v e => by
  rcases i with _ | _ | i
  · cases (show x = v from Option.some.inj e)
    exact ⟨_, _, tx⟩
  · cases (show y = v from Option.some.inj e)
    exact ⟨_, _, ty⟩
  · simp at e, 1, y, rfl, ty, fun j u h1 h2 => by
  have z : j = 0 := by omega
  subst z
  cases (show x = u from Option.some.inj h2)
  exact ⟨q, nx⟩⟩
/-- an odd thing: no whole number; rt: is it a quotient -/
structure OddR (K : Fg) (C : Addr) (H : Hp) (x : V) (rt : Bool) : Prop where
  ty : TyN K C H x false rt
  th : Thing x
theorem OddR.grow {H H' : Hp} {x : V} {rt : Bool} (o : OddR K C H x rt) (e : Ex H H') : OddR K C H' x rt := ⟨TyN_grow o.ty e, o.th⟩
theorem OddR.of {H : Hp} {x : V} (O : RatO K C) (o : Odd K C H x) (t : Thing x) : OddR K C H x false := ⟨o.tyn O, t⟩
theorem prs_num {H : Hp} {x : V} (t : Thing x) : Prs WB.DThing [.str "number", x] [.str "number", x] H := .cons (.inl ⟨rfl, rfl, by simp [eqV]⟩) (.cons (t H) .nil)
theorem prs_zero {H : Hp} : Prs WB.DThing [.str "zero"] [.str "zero"] H := .cons (.inl ⟨rfl, rfl, by simp [eqV]⟩) .nil
def spOdd : Sp := fun vs H Q _ => ∃ m n, vs = [.ref m] ∧ BagAt H m n ∧ n + 2 ≤ 2 ^ 30 ∧ ∀ H', Kp m H H' → BagAt H' m (n + 2) → Q (.bl true) H'
theorem ok_odd_right (F : FnP K "_law_odd_right" "_law_odd_right" s__law_odd_right [] f fd) (T : RatC K C) (O : RatO K C) (c__law_take : Callee P w K mg base 1 "_law_take" ["_law_bag_here", "_law_many"] spTake) (c__law_refused : Callee P w K mg base 8 "_law_refused" ["_law_way", "_law_one", "_law_other"] (spRefused K C))
    (k_Ratio2 : Maker P w K mg base 2 "Ratio" C ["self", "top", "bottom"] [] (spRInit C CZ)) (m_isinstance : mg "isinstance" = none) (g_Ratio : mg "Ratio" = some (.ref C)) : FnX P w K mg base 9 f fd ["_law_bag_here"] spOdd := by
  refine F.ok sc__law_odd_right (fun vs H Q E h => ?_) (fun cdv A outer s H vs Q E hr h => ?_)
  · obtain ⟨m, n, rfl, _⟩ := h
    rfl
  · obtain ⟨m, n, rfl, b0, hn, k⟩ := h
    refine ⟨_, (pss_cons (ps_asg (pe_ix ix_list (pe_lst (pa_cons pe_non (pa_cons pe_bl (pa_cons pe_str (pa_cons (pe_lst (pa_cons pe_int pa_nil)) (pa_cons (pe_tup (pa_cons pe_int pa_nil)) (pa_cons pe_dnewK (pa_cons pe_bl (pa_cons (pe_maker k_Ratio2 (hr.mono (by decide)) passL (pa_cons pe_int (pa_cons pe_int pa_nil))) pa_nil))))))))) (pe_callee c__law_take (hr.mono (by decide)) (pa_cons (pv 0) (pa_cons pe_int pa_nil))) (fun _ _ => rfl)) (pg_name (i := 1) sc__law_odd_right.nd rfl (.inl rfl)))
      (pss_cons (ps_asg (pe_ix ix_list (pe_lst (pa_cons pe_int (pa_cons pe_int (pa_cons (pe_op op_sub (pe_op op_pow pe_int pe_int) pe_int) pa_nil)))) (pe_callee c__law_take (hr.mono (by decide)) (pa_cons (pv 0) (pa_cons pe_int pa_nil))) (fun _ _ => rfl)) (pg_name (i := 2) sc__law_odd_right.nd rfl (.inl rfl)))
      (pss_cons (ps_for (passes_of rfl) rfl (pi_list (pe_lst (pa_cons (pe_tup (pa_cons (pv 1) (pa_cons pe_int (pa_cons (pv 1) pa_nil)))) (pa_cons (pe_tup (pa_cons (pv 1) (pa_cons pe_non (pa_cons (pv 1) pa_nil)))) (pa_cons (pe_tup (pa_cons (pv 2) (pa_cons (pv 1) (pa_cons (pv 1) pa_nil)))) (pa_cons (pe_tup (pa_cons (pv 1) (pa_cons (pv 2) (pa_cons (pv 1) pa_nil)))) pa_nil)))))) (pg_tup (by rfl) (pgs_cons (pg_name (i := 3) sc__law_odd_right.nd rfl (.inl rfl)) (pgs_cons (pg_name (i := 4) sc__law_odd_right.nd rfl (.inl rfl)) (pgs_cons (pg_name (i := 5) sc__law_odd_right.nd rfl (.inl rfl)) pgs_nil)))) (pss_one (ps_if (pt_cmpR (op_neThingsT (hr.mono (by decide))) (pe_callee c__law_refused (hr.mono (by decide)) (pa_cons pe_int (pa_cons (pv 3) (pa_cons (pv 4) pa_nil)))) (pe_tup (pa_cons pe_str (pa_cons (pv 5) pa_nil))) (nomark _)) (pss_one (ps_ret pe_bl)) pss_nil)))
      (pss_cons (ps_if (pt_cmpR (op_neThingsT (hr.mono (by decide))) (pe_callee c__law_refused (hr.mono (by decide)) (pa_cons pe_int (pa_cons (pv 2) (pa_cons pe_int pa_nil)))) (pe_tup (pa_cons pe_str pa_nil)) (nomark _)) (pss_one (ps_ret pe_bl)) pss_nil)
      (pss_cons (ps_if (PW.pt (pw_and (pt_not (pt_val (pe_callB call_isi (by rfl) m_isinstance (by decide +kernel) (pa_cons (pv 1) (pa_cons (pe_glob (v := .ref C) (by rfl) g_Ratio rfl) pa_nil))))) (pw_and1 (pt_cmpR (op_neThingsT (hr.mono (by decide))) (pe_callee c__law_refused (hr.mono (by decide)) (pa_cons pe_int (pa_cons (pv 1) (pa_cons pe_int pa_nil)))) (pe_tup (pa_cons pe_str (pa_cons (pv 1) pa_nil))) (nomark _))))) (pss_one (ps_ret pe_bl)) pss_nil)
      (pss_cons (ps_for (passes_of rfl) rfl (pi_list (pe_lst (pa_cons pe_int (pa_cons pe_int (pa_cons pe_int pa_nil))))) (pg_name (i := 6) sc__law_odd_right.nd rfl (.inl rfl)) (pss_one (ps_for (passes_of rfl) rfl (pi_list (pe_lst (pa_cons pe_non (pa_cons pe_int (pa_cons pe_str (pa_cons pe_dnewK (pa_cons (pe_lst (pa_cons (pv 2) (pa_cons pe_non pa_nil))) (pa_cons (pe_tup (pa_cons pe_bl pa_nil)) (pa_cons (pe_lst (pa_cons (pv 2) (pa_cons (pe_lst (pa_cons (pv 2) pa_nil)) pa_nil))) (pa_cons (pe_lst (pa_cons (pv 2) (pa_cons pe_str pa_nil))) pa_nil)))))))))) (pg_name (i := 7) sc__law_odd_right.nd rfl (.inl rfl)) (pss_one (ps_if (pt_cmpR (op_neThingsT (hr.mono (by decide))) (pe_callee c__law_refused (hr.mono (by decide)) (pa_cons (pv 6) (pa_cons (pv 7) (pa_cons pe_int pa_nil)))) (pe_tup (pa_cons pe_str (pa_cons (pv 7) pa_nil))) (nomark _)) (pss_one (ps_ret pe_bl)) pss_nil)))))
      (pss_one (ps_ret (pe_and (pe_cmpR (op_eqD hr.units) (pe_callee c__law_refused (hr.mono (by decide)) (pa_cons pe_int (pa_cons (pe_lst pa_nil) (pa_cons pe_int pa_nil)))) (pe_tup (pa_cons pe_str (pa_cons (pe_lst pa_nil) pa_nil))) (nomark _)) (pe_one (pe_cmpR (op_eqD hr.units) (pe_callee c__law_refused (hr.mono (by decide)) (pa_cons pe_int (pa_cons (pe_tup pa_nil) (pa_cons pe_int pa_nil)))) (pe_tup (pa_cons pe_str (pa_cons (pe_tup pa_nil) pa_nil))) (nomark _)))))))))))), ?_⟩
    -- the odd thing
    refine ⟨(by show 1 ≤ sizeLine; decide), fun l1 hl1 => ⟨(by show 1 ≤ sizeLine; decide), fun t1 ht1 p1 hp1 a da ha hda _ => ⟨a, da, 1, 2, rfl, upd_same, .inl ⟨by decide, Nat.lt_of_lt_of_le (by decide : (2 : Int).natAbs < 2 ^ 4) (Nat.pow_le_pow_right (by decide) (by decide)), rfl, ?_⟩⟩⟩⟩
    rw [upd_upd]
    have x1 : Ex H (upd H l1 (.lst [.int 3])) := Ex.new hl1
    have a1 : upd H l1 (.lst [.int 3]) l1 = some (.lst [.int 3]) := upd_same
    generalize upd H l1 (.lst [.int 3]) = H1 at x1 a1 ht1 hp1 ha hda ⊢
    have x2 : Ex H1 (upd H1 t1 (.tup [.int 3])) := Ex.new ht1
    have a2 : upd H1 t1 (.tup [.int 3]) t1 = some (.tup [.int 3]) := upd_same
    generalize upd H1 t1 (.tup [.int 3]) = H2 at x2 a2 hp1 ha hda ⊢
    have x3 : Ex H2 (upd H2 p1 (.dK [])) := Ex.new hp1
    have a3 : upd H2 p1 (.dK []) p1 = some (.dK []) := upd_same
    generalize upd H2 p1 (.dK []) = H3 at x3 a3 ha hda ⊢
    obtain ⟨x4, ra⟩ := rat_new (C := C) ha hda (Rat.divInt 1 2)
    generalize upd (upd H3 da (.own a)) a (.ins C da (ratF (Rat.divInt 1 2))) = H4 at x4 ra ⊢
    clear ha hda
    refine ⟨(by show 8 ≤ sizeLine; decide), fun l hl => ?_⟩
    have xx := ((x1.trans x2).trans x3).trans x4
    have lm : l ≠ m := (b0.ex xx).free hl
    have n1 : l1 ≠ m := b0.free hl1
    have x5 : Ex H4 (upd H4 l (.lst [.non, .bl true, .str "3", .ref l1, .ref t1, .ref p1, .bl false, .ref a])) := Ex.new hl
    have a5 : upd H4 l (.lst [.non, .bl true, .str "3", .ref l1, .ref t1, .ref p1, .bl false, .ref a]) l = some (.lst [.non, .bl true, .str "3", .ref l1, .ref t1, .ref p1, .bl false, .ref a]) := upd_same
    generalize upd H4 l (.lst [.non, .bl true, .str "3", .ref l1, .ref t1, .ref p1, .bl false, .ref a]) = H5 at x5 a5 ⊢
    have b5 := (b0.ex xx).ex x5
    refine ⟨_, rfl, m, 8, n, rfl, by decide, by decide, b5, by omega, fun i H6 i0 i1 k6 b6 => ?_⟩
    have c1 := k6 _ _ (((x2.trans x3).trans (x4.trans x5)) _ _ a1) n1
    have c2 := k6 _ _ ((x3.trans (x4.trans x5)) _ _ a2) (b5.ne ((x3.trans (x4.trans x5)) _ _ a2) fun x z => by cases z)
    have c3 := k6 _ _ ((x4.trans x5) _ _ a3) (b5.ne ((x4.trans x5) _ _ a3) fun x z => by cases z)
    have c5 := k6 _ _ a5 lm
    have c4 := (ra.ex x5).kp b5 k6
    have kk : Kp m H H6 := Kp.trans (xx.trans x5).kp k6
    clear x1 x2 x3 x4 x5 xx a1 a2 a3 a5 ra hl1 ht1 hp1 hl k6 b5 b0
    have od : ∃ v, atI ([.non, .bl true, .str "3", .ref l1, .ref t1, .ref p1, .bl false, .ref a] : List V) i = some v ∧ ∀ H', H' l1 = some (.lst [.int 3]) → H' t1 = some (.tup [.int 3]) → H' p1 = some (.dK []) → RatAt C H' a (Rat.divInt 1 2) → ∃ rt, OddR K C H' v rt := by
      have hw : i = 0 ∨ i = 1 ∨ i = 2 ∨ i = 3 ∨ i = 4 ∨ i = 5 ∨ i = 6 ∨ i = 7 := by omega
      rcases hw with rfl | rfl | rfl | rfl | rfl | rfl | rfl | rfl
      · exact ⟨_, at_of (j := 0) rfl rfl, fun _ _ _ _ _ => ⟨false, .of O ⟨"NoneType", by simp, .base .non⟩ (thing_flat rfl rfl)⟩⟩
      · exact ⟨_, at_of (j := 1) rfl rfl, fun _ _ _ _ _ => ⟨false, .of O ⟨"bool", by simp, .base (.bl _)⟩ (thing_flat rfl rfl)⟩⟩
      · exact ⟨_, at_of (j := 2) rfl rfl, fun _ _ _ _ _ => ⟨false, .of O ⟨"str", by simp, .base (.str _)⟩ (thing_flat rfl (by simp [eqV]))⟩⟩
      · exact ⟨_, at_of (j := 3) rfl rfl, fun _ h _ _ _ => ⟨false, .of O ⟨"list", by simp, .base (.lst h)⟩ thing_ref⟩⟩
      · exact ⟨_, at_of (j := 4) rfl rfl, fun _ _ h _ _ => ⟨false, .of O ⟨"tuple", by simp, .base (.tup h)⟩ thing_ref⟩⟩
      · exact ⟨_, at_of (j := 5) rfl rfl, fun _ _ _ h _ => ⟨false, .of O ⟨"dict", by simp, .base (.dK h)⟩ thing_ref⟩⟩
      · exact ⟨_, at_of (j := 6) rfl rfl, fun _ _ _ _ _ => ⟨false, .of O ⟨"bool", by simp, .base (.bl _)⟩ (thing_flat rfl rfl)⟩⟩
      · exact ⟨_, at_of (j := 7) rfl rfl, fun _ _ _ _ h => ⟨true, ⟨T.tyn h, thing_ref⟩⟩⟩
    obtain ⟨v, ev, ho⟩ := od
    refine ⟨l, _, _, _, rfl, rfl, SqL.of c5, ev, ?_⟩
    clear c5 ev lm i0 i1
    -- the good number
    refine ⟨_, _, rfl, rfl, ⟨by decide, by decide, by decide⟩, _, _, rfl, rfl, (by show 3 ≤ sizeLine; decide), fun l hl => ?_⟩
    have x7 : Ex H6 (upd H6 l (.lst [.int 0, .int 7, .int (10 ^ 30 - 1)])) := Ex.new hl
    have a7 : upd H6 l (.lst [.int 0, .int 7, .int (10 ^ 30 - 1)]) l = some (.lst [.int 0, .int 7, .int (10 ^ 30 - 1)]) := upd_same
    have lm := b6.free hl
    refine ⟨_, rfl, m, 3, n + 1, rfl, by decide, by decide, b6.ex x7, by omega, fun j H8 j0 j1 k8 b8 => ?_⟩
    have gd : ∃ g : Int, atI ([.int 0, .int 7, .int (10 ^ 30 - 1)] : List V) j = some (.int g) := by
      have hw : j = 0 ∨ j = 1 ∨ j = 2 := by omega
      rcases hw with rfl | rfl | rfl
      · exact ⟨0, at_of (j := 0) rfl rfl⟩
      · exact ⟨7, at_of (j := 1) rfl rfl⟩
      · exact ⟨10 ^ 30 - 1, at_of (j := 2) rfl rfl⟩
    obtain ⟨g, eg⟩ := gd
    refine ⟨l, _, _, _, rfl, rfl, SqL.of (k8 _ _ a7 lm), eg, ?_⟩
    have b7 := b6.ex x7
    have c2' := x7 _ _ c2
    have c3' := x7 _ _ c3
    obtain ⟨rt, ov⟩ := ho H8 (k8 _ _ (x7 _ _ c1) n1) (k8 _ _ c2' (b7.ne c2' fun x z => by cases z)) (k8 _ _ c3' (b7.ne c3' fun x z => by cases z)) ((c4.ex x7).kp b7 k8)
    have kk : Kp m H H8 := Kp.trans (Kp.trans kk x7.kp) k8
    clear ho c1 c2 c3 c4 c2' c3' b7 x7 a7 hl n1 lm eg j0 j1 k8 b6
    -- four calls
    refine ⟨_, rfl, _, rfl, (by show 3 ≤ sizeLine; decide), fun q1 h1 => ⟨_, rfl, _, rfl, (by show 3 ≤ sizeLine; decide), fun q2 h2 => ⟨_, rfl, _, rfl, _, rfl, (by show 3 ≤ sizeLine; decide), fun q3 h3 => ⟨_, rfl, _, rfl, _, rfl, (by show 3 ≤ sizeLine; decide), fun q4 h4 => ⟨(by show 4 ≤ sizeLine; decide), fun L hL => ?_⟩⟩⟩⟩⟩
    have y1 : Ex H8 (upd H8 q1 (.tup [v, .int 0, v])) := Ex.new h1
    have d1 : upd H8 q1 (.tup [v, .int 0, v]) q1 = some (.tup [v, .int 0, v]) := upd_same
    generalize upd H8 q1 (.tup [v, .int 0, v]) = G1 at y1 d1 h2 h3 h4 hL ⊢
    have y2 : Ex G1 (upd G1 q2 (.tup [v, .non, v])) := Ex.new h2
    have d2 : upd G1 q2 (.tup [v, .non, v]) q2 = some (.tup [v, .non, v]) := upd_same
    generalize upd G1 q2 (.tup [v, .non, v]) = G2 at y2 d2 h3 h4 hL ⊢
    have y3 : Ex G2 (upd G2 q3 (.tup [.int g, v, v])) := Ex.new h3
    have d3 : upd G2 q3 (.tup [.int g, v, v]) q3 = some (.tup [.int g, v, v]) := upd_same
    generalize upd G2 q3 (.tup [.int g, v, v]) = G3 at y3 d3 h4 hL ⊢
    have y4 : Ex G3 (upd G3 q4 (.tup [v, .int g, v])) := Ex.new h4
    have d4 : upd G3 q4 (.tup [v, .int g, v]) q4 = some (.tup [v, .int g, v]) := upd_same
    generalize upd G3 q4 (.tup [v, .int g, v]) = G4 at y4 d4 hL ⊢
    have y5 : Ex G4 (upd G4 L (.lst [.ref q1, .ref q2, .ref q3, .ref q4])) := Ex.new hL
    have d5 : upd G4 L (.lst [.ref q1, .ref q2, .ref q3, .ref q4]) L = some (.lst [.ref q1, .ref q2, .ref q3, .ref q4]) := upd_same
    generalize upd G4 L (.lst [.ref q1, .ref q2, .ref q3, .ref q4]) = G5 at y5 d5 ⊢
    have d4 := y5 _ _ d4
    have d3 := (y4.trans y5) _ _ d3
    have d2 := (y3.trans (y4.trans y5)) _ _ d2
    have d1 := (y2.trans (y3.trans (y4.trans y5))) _ _ d1
    have yy := y1.trans (y2.trans (y3.trans (y4.trans y5)))
    have ov := ov.grow yy
    have b9 := b8.ex yy
    have kk := Kp.trans kk yy.kp
    clear y1 y2 y3 y4 y5 yy h1 h2 h3 h4 hL b8
    have items : ∀ (i : Nat) x, ([.ref q1, .ref q2, .ref q3, .ref q4] : List V)[i]? = some x → ∃ t one other, x = .ref t ∧ G5 t = some (.tup [one, other, v]) ∧ Refused K C G5 0 one other v := fun i x e => by
      rcases i with _ | _ | _ | _ | i
      · exact ⟨q1, _, _, (Option.some.inj e).symm, d1, .inl ⟨rfl, rt, ov.ty, rfl⟩⟩
      · exact ⟨q2, _, _, (Option.some.inj e).symm, d2, .inl ⟨rfl, rt, ov.ty, rfl⟩⟩
      · exact ⟨q3, _, _, (Option.some.inj e).symm, d3, .inr (.inl ⟨rfl, g, rt, rfl, ov.ty, rfl⟩)⟩
      · exact ⟨q4, _, _, (Option.some.inj e).symm, d4, .inl ⟨rfl, rt, ov.ty, rfl⟩⟩
      · simp at e
    refine ⟨L, rfl, ⟨_, SqL.of d5⟩, for_list (K := K) (a := L) (xs := [.ref q1, .ref q2, .ref q3, .ref q4]) (fun i σ H' => Ex G5 H' ∧ ∃ v3 v4 v5, σ = [some (.ref m), some v, some (.int g), v3, v4, v5, none, none]) ⟨Ex.rfl, none, none, none, rfl⟩ (fun i σ H' _ p => SqL.of (p.1 _ _ d5)) (fun i x σ H' hi p => ?_) fun σ H' p => ?_⟩
    · obtain ⟨e, v3, v4, v5, eσ⟩ := p
      subst eσ
      obtain ⟨t, one, other, ex, ht, r⟩ := items i x hi
      subst ex
      refine ⟨t, _, rfl, SqT.of (e _ _ ht), rfl, _, _, rfl, _, _, rfl, _, _, rfl, rfl, ?_⟩
      refine ⟨_, rfl, _, rfl, 0, one, other, rfl, .inl ⟨v, r.grow e, fun p H2 e2 hp hp2 => ⟨_, rfl, (by show 2 ≤ sizeLine; decide), fun q hq => ?_⟩⟩⟩
      exact ⟨⟨p, q, _, _, rfl, rfl, SqT.of (Ex.new hq _ _ hp2), SqT.of upd_same, prs_num ov.th⟩, fun H3 e3 => ⟨_, rfl, iteF ⟨Ex.trans ((Ex.trans e e2).trans (Ex.new hq)) e3, _, _, _, rfl⟩⟩⟩
    · obtain ⟨e, v3, v4, v5, eσ⟩ := p
      subst eσ
      have ov := ov.grow e
      have b9 := b9.ex e
      have kk := Kp.trans kk e.kp
      clear items d1 d2 d3 d4 d5 e
      refine ⟨_, rfl, 0, .int g, .int 0, rfl, .inr ⟨rfl, rfl, ⟨g, rfl⟩, fun p H2 e2 hp hp2 => ⟨(by show 1 ≤ sizeLine; decide), fun q hq => ?_⟩⟩⟩
      refine ⟨⟨p, q, _, _, rfl, rfl, SqT.of (Ex.new hq _ _ hp2), SqT.of upd_same, prs_zero⟩, fun H3 e3 => ⟨_, rfl, iteF ?_⟩⟩
      have e23 := (Ex.trans e2 (Ex.new hq)).trans e3
      have ov := ov.grow e23
      have b9 := b9.ex e23
      have kk := Kp.trans kk e23.kp
      clear e23 e2 e3 hp hp2 hq
      obtain ⟨t, bi, tx, g1, g3, g4⟩ := ov.ty.ex
      refine ⟨_, rfl, v, .ref C, t, _, rt, rfl, .own C, tx, g4, rt, rfl, ?_⟩
      clear tx g1 g3 g4
      cases rt
      case' true =>
        refine iteF (iteF ?_)
        have kx := kk
        have bx := b9
        generalize H3 = H5 at kx bx ⊢
      case' false =>
        refine iteT ⟨_, rfl, 1, v, .int 0, rfl, .inl ⟨v, .inr (.inr (.inl ⟨rfl, ov.ty, rfl⟩)), fun p H4 e4 hp hp2 => ⟨_, rfl, (by show 2 ≤ sizeLine; decide), fun q hq => ?_⟩⟩⟩
        refine ⟨⟨p, q, _, _, rfl, rfl, SqT.of (Ex.new hq _ _ hp2), SqT.of upd_same, prs_num ov.th⟩, fun H5 e5 => ⟨_, rfl, iteF ?_⟩⟩
        have kx := Kp.trans kk ((Ex.trans e4 (Ex.new hq)).trans e5).kp
        have bx := b9.ex ((Ex.trans e4 (Ex.new hq)).trans e5)
        clear e4 e5 hp hp2 hq
      all_goals (
        clear kk b9 ov
        refine ⟨(by show 3 ≤ sizeLine; decide), fun L2 hL2 => ?_⟩
        have y0 : Ex H5 (upd H5 L2 (.lst [.int 2, .int 3, .int 4])) := Ex.new hL2
        have d0 : upd H5 L2 (.lst [.int 2, .int 3, .int 4]) L2 = some (.lst [.int 2, .int 3, .int 4]) := upd_same
        generalize upd H5 L2 (.lst [.int 2, .int 3, .int 4]) = G0 at y0 d0 ⊢
        refine ⟨L2, rfl, ⟨_, SqL.of d0⟩, for_list (K := K) (a := L2) (xs := [.int 2, .int 3, .int 4]) (fun i σ H' => Ex G0 H' ∧ ∃ v3 v4 v5 v6 v7, σ = [some (.ref m), some v, some (.int g), v3, v4, v5, v6, v7]) ⟨Ex.rfl, _, _, _, _, _, rfl⟩ (fun i σ H' _ p => SqL.of (p.1 _ _ d0)) (fun i x σ H' hi p => ?_) fun σ H' p => ?_⟩
        · obtain ⟨e, v3, v4, v5, v6, v7, eσ⟩ := p
          subst eσ
          have hx : ∃ way : Int, x = .int way ∧ (way = 2 ∨ way = 3 ∨ way = 4) := by
            rcases i with _ | _ | _ | i
            · exact ⟨2, (Option.some.inj hi).symm, .inl rfl⟩
            · exact ⟨3, (Option.some.inj hi).symm, .inr (.inl rfl)⟩
            · exact ⟨4, (Option.some.inj hi).symm, .inr (.inr rfl)⟩
            · simp at hi
          obtain ⟨way, ex, hway⟩ := hx
          subst ex
          refine fun p1 hp1 => ⟨_, rfl, (by show 2 ≤ sizeLine; decide), fun l1 hl1 => ⟨(by show 1 ≤ sizeLine; decide), fun t1 ht1 => ⟨_, rfl, _, rfl, (by show 1 ≤ sizeLine; decide), fun l2 hl2 => ⟨(by show 2 ≤ sizeLine; decide), fun l3 hl3 => ⟨_, rfl, (by show 2 ≤ sizeLine; decide), fun l4 hl4 => ⟨(by show 8 ≤ sizeLine; decide), fun L3 hL3 => ?_⟩⟩⟩⟩⟩⟩
          have y1 : Ex H' (upd H' p1 (.dK [])) := Ex.new hp1
          have d1 : upd H' p1 (.dK []) p1 = some (.dK []) := upd_same
          generalize upd H' p1 (.dK []) = G1 at y1 d1 hl1 ht1 hl2 hl3 hl4 hL3 ⊢
          have y2 : Ex G1 (upd G1 l1 (.lst [.int g, .non])) := Ex.new hl1
          have d2 : upd G1 l1 (.lst [.int g, .non]) l1 = some (.lst [.int g, .non]) := upd_same
          generalize upd G1 l1 (.lst [.int g, .non]) = G2 at y2 d2 ht1 hl2 hl3 hl4 hL3 ⊢
          have y3 : Ex G2 (upd G2 t1 (.tup [.bl true])) := Ex.new ht1
          have d3 : upd G2 t1 (.tup [.bl true]) t1 = some (.tup [.bl true]) := upd_same
          generalize upd G2 t1 (.tup [.bl true]) = G3 at y3 d3 hl2 hl3 hl4 hL3 ⊢
          have y4 : Ex G3 (upd G3 l2 (.lst [.int g])) := Ex.new hl2
          have d4 : upd G3 l2 (.lst [.int g]) l2 = some (.lst [.int g]) := upd_same
          generalize upd G3 l2 (.lst [.int g]) = G4 at y4 d4 hl3 hl4 hL3 ⊢
          have y5 : Ex G4 (upd G4 l3 (.lst [.int g, .ref l2])) := Ex.new hl3
          have d5 : upd G4 l3 (.lst [.int g, .ref l2]) l3 = some (.lst [.int g, .ref l2]) := upd_same
          generalize upd G4 l3 (.lst [.int g, .ref l2]) = G5 at y5 d5 hl4 hL3 ⊢
          have y6 : Ex G5 (upd G5 l4 (.lst [.int g, .str "1"])) := Ex.new hl4
          have d6 : upd G5 l4 (.lst [.int g, .str "1"]) l4 = some (.lst [.int g, .str "1"]) := upd_same
          generalize upd G5 l4 (.lst [.int g, .str "1"]) = G6 at y6 d6 hL3 ⊢
          have y7 : Ex G6 (upd G6 L3 (.lst [.non, .int 5, .str "12", .ref p1, .ref l1, .ref t1, .ref l3, .ref l4])) := Ex.new hL3
          have d7 : upd G6 L3 (.lst [.non, .int 5, .str "12", .ref p1, .ref l1, .ref t1, .ref l3, .ref l4]) L3 = some (.lst [.non, .int 5, .str "12", .ref p1, .ref l1, .ref t1, .ref l3, .ref l4]) := upd_same
          generalize upd G6 L3 (.lst [.non, .int 5, .str "12", .ref p1, .ref l1, .ref t1, .ref l3, .ref l4]) = G7 at y7 d7 ⊢
          have z6 := y7
          have z5 := y6.trans z6
          have z4 := y5.trans z5
          have z3 := y4.trans z4
          have z2 := y3.trans z3
          have z1 := y2.trans z2
          have d6 := z6 _ _ d6
          have d5 := z5 _ _ d5
          have d4 := z4 _ _ d4
          have d3 := z3 _ _ d3
          have d2 := z2 _ _ d2
          have d1 := z1 _ _ d1
          have e7 := Ex.trans e (y1.trans z1)
          clear y1 y2 y3 y4 y5 y6 y7 z1 z2 z3 z4 z5 z6 hp1 hl1 ht1 hl2 hl3 hl4 hL3 e
          have int_ty : TyN K C G7 (.int g) true false := TyN.int T.ki
          have bad : ∀ (i : Nat) x, ([.non, .int 5, .str "12", .ref p1, .ref l1, .ref t1, .ref l3, .ref l4] : List V)[i]? = some x → BadList K C G7 x ∧ Thing x := fun i x hi => by
            rcases i with _ | _ | _ | _ | _ | _ | _ | _ | i
            · cases (show V.non = x from Option.some.inj hi)
              exact ⟨.inl ⟨_, .base .non, not_list (by simp)⟩, thing_flat rfl rfl⟩
            · cases (show V.int 5 = x from Option.some.inj hi)
              exact ⟨.inl ⟨_, .base (.int _), not_list (by simp)⟩, thing_flat rfl rfl⟩
            · cases (show V.str "12" = x from Option.some.inj hi)
              exact ⟨.inl ⟨_, .base (.str _), not_list (by simp)⟩, thing_flat rfl (by simp [eqV])⟩
            · cases (show V.ref p1 = x from Option.some.inj hi)
              exact ⟨.inl ⟨_, .base (.dK d1), not_list (by simp)⟩, thing_ref⟩
            · cases (show V.ref l1 = x from Option.some.inj hi)
              exact ⟨bad2 (.inl (SqL.of d2)) (.inl ⟨_, rfl, rfl⟩) int_ty (Odd.tyn ⟨"NoneType", by simp, .base .non⟩ O), thing_ref⟩
            · cases (show V.ref t1 = x from Option.some.inj hi)
              exact ⟨bad1 (.inr (SqT.of d3)) (Odd.tyn ⟨"bool", by simp, .base (.bl _)⟩ O), thing_ref⟩
            · cases (show V.ref l3 = x from Option.some.inj hi)
              exact ⟨bad2 (.inl (SqL.of d5)) (.inl ⟨_, rfl, rfl⟩) int_ty (Odd.tyn ⟨"list", by simp, .base (.lst d4)⟩ O), thing_ref⟩
            · cases (show V.ref l4 = x from Option.some.inj hi)
              exact ⟨bad2 (.inl (SqL.of d6)) (.inl ⟨_, rfl, rfl⟩) int_ty (Odd.tyn ⟨"str", by simp, .base (.str _)⟩ O), thing_ref⟩
            · simp at hi
          refine ⟨L3, rfl, ⟨_, SqL.of d7⟩, for_list (K := K) (a := L3) (xs := [.non, .int 5, .str "12", .ref p1, .ref l1, .ref t1, .ref l3, .ref l4]) (fun i σ H' => Ex G7 H' ∧ ∃ v3 v4 v5 v7, σ = [some (.ref m), some v, some (.int g), v3, v4, v5, some (.int way), v7]) ⟨Ex.rfl, _, _, _, _, rfl⟩ (fun i σ H' _ p => SqL.of (p.1 _ _ d7)) (fun i x σ H' hi p => ?_) fun σ H' p => ?_⟩
          · obtain ⟨e, v3, v4, v5, v7, eσ⟩ := p
            subst eσ
            obtain ⟨bx, tx⟩ := bad i x hi
            have rr : Refused K C H' way x (.int 0) x := by
              rcases hway with rfl | rfl | rfl
              · exact .inr (.inr (.inr (.inl ⟨rfl, bx.grow e, rfl⟩)))
              · exact .inr (.inr (.inr (.inr ⟨.inl rfl, .inl (bx.grow e), rfl⟩)))
              · exact .inr (.inr (.inr (.inr ⟨.inr rfl, .inl (bx.grow e), rfl⟩)))
            refine ⟨_, rfl, _, rfl, way, x, .int 0, rfl, .inl ⟨x, rr, fun p H2 e2 hp hp2 => ⟨_, rfl, (by show 2 ≤ sizeLine; decide), fun q hq => ?_⟩⟩⟩
            exact ⟨⟨p, q, _, _, rfl, rfl, SqT.of (Ex.new hq _ _ hp2), SqT.of upd_same, prs_num tx⟩, fun H3 e3 => ⟨_, rfl, iteF ⟨Ex.trans ((Ex.trans e e2).trans (Ex.new hq)) e3, _, _, _, _, rfl⟩⟩⟩
          · obtain ⟨e, v3, v4, v5, v7, eσ⟩ := p
            subst eσ
            exact ⟨Ex.trans e7 e, _, _, _, _, _, rfl⟩
        · obtain ⟨e, v3, v4, v5, v6, v7, eσ⟩ := p
          subst eσ
          have kx := Kp.trans kx (Ex.trans y0 e).kp
          have bx := bx.ex (Ex.trans y0 e)
          clear y0 d0 e
          -- empty ones
          refine ⟨(by show 0 ≤ sizeLine; decide), fun l1 hl1 => ⟨3, .ref l1, .int 0, rfl, .inl ⟨.ref l1, .inr (.inr (.inr (.inr ⟨.inl rfl, .inr ⟨l1, rfl, .inl (SqL.of upd_same)⟩, rfl⟩))), fun p H2 e2 hp hp2 => ⟨(by show 0 ≤ sizeLine; decide), fun l2 hl2 => ⟨(by show 2 ≤ sizeLine; decide), fun q hq => ?_⟩⟩⟩⟩⟩
          refine ⟨_, _, .tup (SqT.of (Ex.new hq _ _ (Ex.new hl2 _ _ hp2))) (.cons (.str _) (.cons (.lst (SqL.of (Ex.new hq _ _ (Ex.new hl2 _ _ (e2 _ _ upd_same)))) .nil) .nil)), .tup (SqT.of upd_same) (.cons (.str _) (.cons (.lst (SqL.of (Ex.new hq _ _ upd_same)) .nil) .nil)), by decide +kernel, by decide +kernel, _, rfl, ?_⟩
          rw [eqv_nl]
          have e3 := (((Ex.new (o := .lst []) hl1).trans e2).trans (Ex.new (o := .lst []) hl2)).trans (Ex.new (o := .tup [.str "number", .ref l2]) hq)
          have kx := Kp.trans kx e3.kp
          have bx := bx.ex e3
          generalize upd (upd H2 l2 (.lst [])) q (.tup [.str "number", .ref l2]) = H6 at kx bx ⊢
          clear e3 e2 hp hp2 hl1 hl2 hq
          refine iteT ⟨(by show 0 ≤ sizeLine; decide), fun l1 hl1 => ⟨4, .ref l1, .int 0, rfl, .inl ⟨.ref l1, .inr (.inr (.inr (.inr ⟨.inr rfl, .inr ⟨l1, rfl, .inr (SqT.of upd_same)⟩, rfl⟩))), fun p H2 e2 hp hp2 => ⟨(by show 0 ≤ sizeLine; decide), fun l2 hl2 => ⟨(by show 2 ≤ sizeLine; decide), fun q hq => ?_⟩⟩⟩⟩⟩
          refine ⟨_, _, .tup (SqT.of (Ex.new hq _ _ (Ex.new hl2 _ _ hp2))) (.cons (.str _) (.cons (.tup (SqT.of (Ex.new hq _ _ (Ex.new hl2 _ _ (e2 _ _ upd_same)))) .nil) .nil)), .tup (SqT.of upd_same) (.cons (.str _) (.cons (.tup (SqT.of (Ex.new hq _ _ upd_same)) .nil) .nil)), by decide +kernel, by decide +kernel, ?_⟩
          rw [eqv_nt]
          have e3 := (((Ex.new (o := .tup []) hl1).trans e2).trans (Ex.new (o := .tup []) hl2)).trans (Ex.new (o := .tup [.str "number", .ref l2]) hq)
          exact k _ (Kp.trans kx e3.kp) (bx.ex e3))
/-! ## texts of quotients -/
abbrev s_Ratio_text : Stmt := inClass (top 11) 10
theorem sc_Ratio_text : FnScope ["self"] ["self"] (defScope s_Ratio_text) := ⟨rfl, rfl, rfl, by decide +kernel, rfl, by decide +kernel, by decide +kernel⟩
abbrev s__is_digits : Stmt := top 19
theorem sc__is_digits : FnScope ["text"] ["text"] (defScope s__is_digits) := ⟨rfl, rfl, rfl, by decide +kernel, rfl, by decide +kernel, by decide +kernel⟩
theorem str_S (i : Int) : Str.ofString (toString i) = SX.S (WT.intL i) := TL.ext_tl (WT.tl_int i)
theorem log_lt {n k : Nat} (h : n < 2 ^ k) (hk : 0 < k) : n.log2 < k := by
  by_cases h0 : n = 0
  · subst h0
    rw [Nat.log2_zero]
    exact hk
  · exact (Nat.log2_lt h0).mpr h
theorem numL_short {n : Nat} (h : n < 2 ^ 1900) : (TL.numL n).length ≤ 600 := TL.numL_len (by decide) (Nat.lt_of_lt_of_le h (by decide +kernel))
theorem intL_short {i : Int} (h : i.natAbs < 2 ^ 1900) : (WT.intL i).length ≤ 601 := by
  have := numL_short h
  unfold WT.intL
  split
  · rw [List.length_cons]
    omega
  · omega
theorem line_ge {n : Nat} (h : n ≤ 100000) : n ≤ sizeLine := Nat.le_of_lt (len_line h)
theorem e1 : Str.ofString "/" = SX.S [47] := by decide +kernel
theorem empty_S (l : List Nat) : Str.empty ++ SX.S l = SX.S l := by
  show SX.S [] ++ SX.S l = _
  rw [SX.S_cat]
  rfl
theorem num_S' (n : Nat) : Str.ofString (toString ((n : Nat) : Int)) = SX.S (TL.numL n) := TL.ext_tl (TL.tl_num n)
theorem dig128 : ∀ c, c < 128 → Unicode.isDigit c = decide (48 ≤ c ∧ c ≤ 57) := by decide +kernel
theorem ascii_all (cs : List Nat) : Txt.isascii (SX.S cs) = cs.all (· < 128) := by
  show (SX.S cs).cps.all _ = _
  rw [← Array.all_toList]
theorem digit_all (cs : List Nat) : Txt.isdigit (SX.S cs) = (decide (0 < cs.length) && cs.all Unicode.isDigit) := by
  show (decide ((SX.S cs).length > 0) && (SX.S cs).cps.all _) = _
  rw [← Array.all_toList, SX.S_len]
def spText (C : Addr) : Sp := fun vs H Q _ => ∃ a q, vs = [.ref a] ∧ RatAt C H a q ∧ Sz 1900 q ∧ Q (.str (SX.S (WT.ratL q))) H
theorem ok_text (F : FnP K "text" "Ratio.text" s_Ratio_text [] f fd) (T : RatC K C) (m_str : mg "str" = none) : FnX P w K mg base 1 f fd ["self"] (spText C) := by
  refine F.ok sc_Ratio_text (fun vs H Q E h => ?_) (fun cdv A outer s H vs Q E hr h => ?_)
  · obtain ⟨a, q, rfl, _⟩ := h
    rfl
  · obtain ⟨a, q, rfl, ⟨dx, ha⟩, z, k⟩ := h
    refine ⟨_, (pss_cons (ps_if (pt_cmpR op_eq (pe_fld (pv 0) rfl) pe_int (nomark _)) (pss_one (ps_ret (pe_callTy call_str_int (by rfl) m_str (by decide +kernel) (pa_cons (pe_fld (pv 0) rfl) pa_nil)))) pss_nil)
      (pss_one (ps_ret (pe_joined (.cons (pe_fmt (pe_fld (pv 0) rfl)) (.cons pe_str (.cons (pe_fmt (pe_fld (pv 0) rfl)) .nil))))))), ?_⟩
    have n1 := intL_short z.1
    have n2 := numL_short z.2
    have lg1 : q.num.natAbs.log2 < 1920 := Nat.lt_trans (log_lt z.1 (by decide)) (by decide)
    have lg2 : (q.den : Int).natAbs.log2 < 1920 := Nat.lt_trans (log_lt z.2 (by decide)) (by decide)
    refine ⟨_, rfl, a, C, dx, _, _, rfl, ha, T.cl, T.nB, ratF_bot, rfl, _, rfl, ?_⟩
    unfold WT.ratL at k
    by_cases d : q.den = 1
    · rw [decide_eq_true (congrArg V.int (by omega : (q.den : Int) = 1))]
      rw [if_pos d, List.append_nil] at k
      exact iteT ⟨_, rfl, a, C, dx, _, _, rfl, ha, T.cl, T.nT, ratF_top, _, rfl, lg1, by rw [str_S]; exact k⟩
    · rw [decide_eq_false (fun e => d (by have := V.int.inj e; omega))]
      rw [if_neg d] at k
      refine iteF ⟨_, rfl, a, C, dx, _, _, rfl, ha, T.cl, T.nT, ratF_top, .inr ⟨_, rfl, lg1, _, rfl, ?_, _, rfl, ?_, _, rfl, a, C, dx, _, _, rfl, ha, T.cl, T.nB, ratF_bot, .inr ⟨_, rfl, lg2, _, rfl, ?_, ?_⟩⟩⟩
      · rw [str_S, empty_S, SX.S_len]
        exact line_ge (by omega)
      · rw [e1, str_S, empty_S, SX.S_cat, SX.S_len, List.length_append]
        exact line_ge (by show _ + 1 ≤ _; omega)
      · rw [e1, str_S, num_S', empty_S, SX.S_cat, SX.S_cat, SX.S_len, List.length_append, List.length_append]
        exact line_ge (by show _ + 1 + _ ≤ _; omega)
      · rw [e1, str_S, num_S', empty_S, SX.S_cat, SX.S_cat, List.append_assoc]
        exact k
def spDigits : Sp := fun vs H Q _ => ∃ cs : List Nat, vs = [.str (SX.S cs)] ∧ ∀ b : Bool, (b = true ↔ NumText.AllDigits cs ∧ cs ≠ []) → Q (.bl b) H
theorem ok_digits (F : FnP K "_is_digits" "_is_digits" s__is_digits [] f fd) : FnX P w K mg base 1 f fd ["text"] spDigits := by
  refine F.ok sc__is_digits (fun vs H Q E h => ?_) (fun cdv A outer s H vs Q E hr h => ?_)
  · obtain ⟨cs, rfl, _⟩ := h
    rfl
  · obtain ⟨cs, rfl, k⟩ := h
    refine ⟨_, (pss_one (ps_ret (pe_and (pe_m0 PySem.F.slot_str_isascii PySem.F.type_str_isascii mt_isascii (pv 0)) (pe_one (pe_m0 PySem.F.slot_str_isdigit PySem.F.type_str_isdigit mt_isdigit (pv 0)))))), ?_⟩
    refine ⟨_, rfl, ⟨_, rfl⟩, _, rfl, rfl, trivial, _, rfl, ?_⟩
    rw [ascii_all]
    cases e : cs.all (· < 128) with
    | false =>
      refine iteF (k false (Iff.intro (fun z => nomatch z) fun z => ?_))
      obtain ⟨c, hc, hn⟩ := List.all_eq_false.mp e
      have := z.1 c hc
      simp at hn
      omega
    | true =>
      refine iteT ⟨_, rfl, ⟨_, rfl⟩, _, rfl, rfl, trivial, ?_⟩
      rw [digit_all]
      have low : ∀ c ∈ cs, c < 128 := fun c hc => by simpa using List.all_eq_true.mp e c hc
      refine k _ ⟨fun z => ?_, fun z => ?_⟩
      · obtain ⟨z1, z2⟩ := Bool.and_eq_true_iff.mp z
        refine ⟨fun c hc => ?_, fun h => ?_⟩
        · have := List.all_eq_true.mp z2 c hc
          rw [dig128 c (low c hc)] at this
          exact of_decide_eq_true this
        · subst h
          simp at z1
      · refine Bool.and_eq_true_iff.mpr ⟨decide_eq_true (List.length_pos_iff.mpr z.2), List.all_eq_true.mpr fun c hc => ?_⟩
        rw [dig128 c (low c hc)]
        exact decide_eq_true (z.1 c hc)
/-! ## reading a quotient -/
abbrev s_InvalidText_init : Stmt := inClass (top 4) 0
theorem sc_InvalidText_init : FnScope ["self", "value"] ["self", "value"] (defScope s_InvalidText_init) := ⟨rfl, rfl, rfl, by decide +kernel, rfl, by decide +kernel, by decide +kernel⟩
theorem ok_InvalidText_init {CN : Addr} (F : FnP K "__init__" "InvalidText.__init__" s_InvalidText_init [] f fd) (T : OexC K CN) (no : PySem.W.findIn K (.ref CN) "value" = some none) : FnX P w K mg base 1 f fd ["self", "value"] (spField CN "value") := by
  refine F.ok sc_InvalidText_init (fun vs H Q E h => ?_) (fun cdv A outer s H vs Q E hr h => ?_)
  · obtain ⟨a, v, rfl, _⟩ := h
    rfl
  · obtain ⟨a, v, rfl, ha, k⟩ := h
    exact ⟨_, pss_one (ps_ost (pv 0) (pv 1)), _, rfl, _, rfl, a, CN, rfl, T, no, .inl ⟨ha, fun dx hd ne => k dx hd ne⟩⟩
abbrev s_Ratio_read : Stmt := inClass (top 11) 11
theorem sc_Ratio_read : FnScope ["cls", "text", "top", "slash", "bottom", "ratio"] ["cls", "text"] (defScope s_Ratio_read) := ⟨rfl, rfl, rfl, by decide +kernel, rfl, by decide +kernel, by decide +kernel⟩
/-- the text is a quotient's, not too long -/
def IsRat (cs : List Nat) (q : Rat) : Prop := cs = WT.ratL q ∧ cs.length ≤ 100
def spRead (K : Fg) (C CT : Addr) : Sp := fun vs H Q E => ∃ x, vs = [.ref C, x] ∧ ((∃ cs : List Nat, x = .str (SX.S cs) ∧ cs.length ≤ 600 ∧ ((∃ q, IsRat cs q ∧ ∀ a H', Ex H H' → RatAt C H' a q → Q (.ref a) H') ∨ ((¬ ∃ q, IsRat cs q) ∧ InvX CT H E x))) ∨ ((∃ t, TyX K H x t ∧ PySem.W.kitOne K t (.type "str") = some false) ∧ InvX CT H E x))
theorem ok_read {CT : Addr} (F : FnP K "read" "Ratio.read" s_Ratio_read [] f fd) (T : RatC K C) (c__is_digits : Callee P w K mg base 1 "_is_digits" ["text"] spDigits) (k_Ratio2 : Maker P w K mg base 2 "Ratio" C ["self", "top", "bottom"] [] (spRInit C CZ)) (m_text : Mthd P w K mg base 1 C "text" ["self"] (spText C))
    (v_text : ExcV P w K mg base "InvalidText" "value" CT) (m_isinstance : mg "isinstance" = none) (m_str : mg "str" = none) (m_len : mg "len" = none) (m_int : mg "int" = none) (g_LONGEST_TEXT : ∃ t, mg "LONGEST_TEXT" = some (.int 100 t)) : FnX P w K mg base 4 f fd ["cls", "text"] (spRead K C CT) := by
  refine F.ok sc_Ratio_read (fun vs H Q E h => ?_) (fun cdv A outer s H vs Q E hr h => ?_)
  · obtain ⟨x, rfl, _⟩ := h
    rfl
  · obtain ⟨x, rfl, h⟩ := h
    obtain ⟨tl, g_LONGEST_TEXT⟩ := g_LONGEST_TEXT
    obtain ⟨f_text, fd_text, cl_text, me_text, b_text, F_text⟩ := m_text.ex
    refine ⟨_, (pss_cons (ps_if (PW.pt (pw_or (pt_not (pt_val (pe_callB call_isi (by rfl) m_isinstance (by decide +kernel) (pa_cons (pv 1) (pa_cons (pe_bltn (v := .ty "str") (by rfl) m_str (by decide +kernel) rfl) pa_nil))))) (pw_or1 (pt_cmpR op_gt (pe_callB call_len (by rfl) m_len (by decide +kernel) (pa_cons (pv 1) pa_nil)) (pe_glob (v := .int 100) (by rfl) g_LONGEST_TEXT ⟨_, rfl⟩) (nomark _))))) (pss_one (ps_raiseV v_text (takes_of rfl rfl rfl rfl) (pv 1) (hr.mono (by decide)))) pss_nil)
      (pss_cons (ps_asg (pe_partition (pv 1) pe_str) (pg_tup (by rfl) (pgs_cons (pg_name (i := 2) sc_Ratio_read.nd rfl (.inl rfl)) (pgs_cons (pg_name (i := 3) sc_Ratio_read.nd rfl (.inl rfl)) (pgs_cons (pg_name (i := 4) sc_Ratio_read.nd rfl (.inl rfl)) pgs_nil)))))
      (pss_cons (ps_if (pt_not (pt_truth (pv 3) (by intro _; rfl))) (pss_one (ps_asg pe_str (pg_name (i := 4) sc_Ratio_read.nd rfl (.inl rfl)))) pss_nil)
      (pss_cons (ps_if (PW.pt (pw_or (pt_not (PW.pt (pw_and (pt_val (pe_callee c__is_digits (hr.mono (by decide)) (pa_cons (pe_m1 PySem.F.slot_str_removeprefix PySem.F.type_str_removeprefix mt_removeprefix (pv 2) pe_str) pa_nil))) (pw_and1 (pt_val (pe_callee c__is_digits (hr.mono (by decide)) (pa_cons (pv 4) pa_nil))))))) (pw_or1 (pt_cmpR op_eq (pe_callTy call_int_str (by rfl) m_int (by decide +kernel) (pa_cons (pv 4) pa_nil)) pe_int (nomark _))))) (pss_one (ps_raiseV v_text (takes_of rfl rfl rfl rfl) (pv 1) (hr.mono (by decide)))) pss_nil)
      (pss_cons (ps_asg (pe_makeL (i := 0) k_Ratio2 (hr.mono (by decide)) rfl (.inl rfl) passL (pa_cons (pe_callTy call_int_str (by rfl) m_int (by decide +kernel) (pa_cons (pv 2) pa_nil)) (pa_cons (pe_callTy call_int_str (by rfl) m_int (by decide +kernel) (pa_cons (pv 4) pa_nil)) pa_nil))) (pg_name (i := 5) sc_Ratio_read.nd rfl (.inl rfl)))
      (pss_cons (ps_if (pt_cmpR op_ne (pe_meth0 (pv 5) cl_text me_text F_text (hr.mono (by decide)) b_text .nil passL) (pv 1) (nomark _)) (pss_one (ps_raiseV v_text (takes_of rfl rfl rfl rfl) (pv 1) (hr.mono (by decide)))) pss_nil)
      (pss_one (ps_ret (pv 5))))))))), ?_⟩
    rcases h with ⟨cs, rfl, l6, h⟩ | ⟨⟨t, ty, hk⟩, i⟩
    rotate_left
    · exact ⟨_, rfl, x, .ty "str", t, _, false, rfl, .ty _, ty, hk, false, rfl, iteT (iteT ⟨_, rfl, raiseV i⟩)⟩
    have bad : (¬ ∃ q, IsRat cs q) → InvX CT H E (.str (SX.S cs)) := fun z => by
      rcases h with ⟨q, hq, _⟩ | ⟨_, i⟩
      · exact absurd ⟨q, hq⟩ z
      · exact i
    have good : ∀ q, IsRat cs q → ∀ a H', Ex H H' → RatAt C H' a q → Q (.ref a) H' := fun q z => by
      rcases h with ⟨r, hr, k⟩ | ⟨n, _⟩
      · rw [WT.ratL_inj (z.1.symm.trans hr.1)]
        exact k
      · exact absurd ⟨q, z⟩ n
    clear h
    have ll : (SX.S cs).length ≤ sizeLine := by
      rw [SX.S_len]
      exact line_ge (by omega)
    refine ⟨_, rfl, .str (SX.S cs), .ty "str", .type "str", _, true, rfl, .ty _, .base (.str _), kit_ty (by decide +kernel), true, rfl, iteF ⟨_, rfl, _, cs.length, rfl, ⟨ll, by rw [SX.S_len]⟩, _, _, rfl, rfl, _, rfl, ?_⟩⟩
    by_cases l1 : cs.length ≤ 100
    rotate_left
    · rw [decide_eq_true (by omega)]
      exact iteT ⟨_, rfl, raiseV (bad fun ⟨q, z⟩ => l1 z.2)⟩
    rw [decide_eq_false (by omega)]
    refine iteF ?_
    have parts : ∃ a sl b, Txt.partition (SX.S cs) (Str.ofString "/") = (SX.S a, SX.S sl, SX.S b) ∧ (sl = [] ∨ sl = [47]) ∧ a.length ≤ 100 ∧ b.length ≤ 100 ∧ ∀ q, cs = WT.ratL q → a = WT.intL q.num ∧ (if sl = [] then [49] else b) = TL.numL q.den := by
      rw [e1]
      by_cases m : 47 ∈ cs
      · obtain ⟨a, b, e, f⟩ := WT.first_at _ m
        refine ⟨a, [47], b, SX.partition_some (by decide) (by rw [e, WT.par_at a [] b f]; rfl), .inr rfl, ?_, ?_, fun q hq => ?_⟩
        · rw [e, List.length_append] at l1
          omega
        · rw [e, List.length_append, List.length_cons] at l1
          omega
        · obtain ⟨x, y, _⟩ := (WT.ratL_two f q).mp (e.symm.trans hq)
          exact ⟨x, y⟩
      · refine ⟨cs, [], [], SX.partition_none (by decide) (WT.par_free cs [] m), .inl rfl, l1, by decide, fun q hq => ?_⟩
        obtain ⟨i, x, y⟩ := (WT.ratL_one m q).mp hq
        subst y
        rw [Rat.num_intCast, Rat.den_intCast]
        exact ⟨x, by rw [if_pos rfl, TL.numL_lt (by decide)]⟩
    obtain ⟨a, sl, b, hpt, hsl, la, lb, hq⟩ := parts
    refine ⟨_, rfl, ⟨_, rfl⟩, _, _, rfl, rfl, by decide +kernel, ll, fun p hp => ?_⟩
    rw [hpt]
    refine ⟨p, _, rfl, SqT.of upd_same, rfl, _, _, rfl, _, _, rfl, _, _, rfl, rfl, ?_⟩
    have e0 : Ex H (upd H p (.tup [.str (SX.S a), .str (SX.S sl), .str (SX.S b)])) := Ex.new hp
    generalize upd H p (.tup [.str (SX.S a), .str (SX.S sl), .str (SX.S b)]) = H1 at e0 ⊢
    have one : Str.ofString "1" = SX.S [49] := by decide +kernel
    have fin_len : ∀ {c : List Nat}, c.length ≤ 100 → (SX.S c).length ≤ sizeLine := fun h => by
      rw [SX.S_len]
      exact line_ge (by omega)
    rcases hsl with rfl | rfl
    case' inl =>
      have hq : ∀ q, cs = WT.ratL q → a = WT.intL q.num ∧ [49] = TL.numL q.den := fun q h => by simpa using hq q h
      have lc : [49].length ≤ 100 := by decide
      refine ⟨_, rfl, false, ⟨fin_len (by decide), rfl⟩, iteT ?_⟩
      show tSeq _ _ _ [some (.ref C), some (.str (SX.S cs)), some (.str (SX.S a)), some (.str (SX.S [])), some (.str (Str.ofString "1")), none] H1
      rw [one]
      generalize ([49] : List Nat) = c at hq lc ⊢
      generalize V.str (SX.S []) = v3
    case' inr =>
      have hq : ∀ q, cs = WT.ratL q → a = WT.intL q.num ∧ b = TL.numL q.den := fun q h => by simpa using hq q h
      have lc := lb
      refine ⟨_, rfl, true, ⟨fin_len (by decide), rfl⟩, iteF ?_⟩
      show tSeq _ _ _ [some (.ref C), some (.str (SX.S cs)), some (.str (SX.S a)), some (.str (SX.S [47])), some (.str (SX.S b)), none] H1
      generalize b = c at hq lc ⊢
      generalize V.str (SX.S [47]) = v3
    all_goals (
      refine ⟨_, rfl, ⟨_, rfl⟩, _, _, rfl, rfl, fin_len la, ?_⟩
      rw [WT.rp_bare]
      refine ⟨WT.bare a, rfl, fun b1 h1 => ⟨b1, rfl, ?_⟩⟩
      cases b1 with
      | false =>
        refine iteF (iteT (iteT ⟨_, rfl, raiseV (InvX.up (bad fun ⟨q, z⟩ => ?_) e0)⟩))
        have y := h1.mpr (by rw [(hq q z.1).1]; exact WT.bare_intL _)
        cases y
      | true =>
        refine iteT ⟨_, rfl, c, rfl, fun b2 h2 => ⟨b2, rfl, ?_⟩⟩
        cases b2 with
        | false =>
          refine iteT (iteT ⟨_, rfl, raiseV (InvX.up (bad fun ⟨q, z⟩ => ?_) e0)⟩)
          have y := h2.mpr (by rw [(hq q z.1).2]; exact ⟨TL.numL_digits _, TL.numL_ne _⟩)
          cases y
        | true =>
          have g1 := h1.mp rfl
          have g2 := h2.mp rfl
          obtain ⟨n, en, bn, un⟩ := WT.read_int g1 (by omega)
          have ed : intText? (SX.S c) = some ((WT.dv c : Nat) : Int) := PySem.intText_digits (x := SX.S c) g2.1 g2.2 (by rw [SX.S_len]; omega)
          have vd : ∀ q, cs = WT.ratL q → n = q.num ∧ WT.dv c = q.den := fun q z => ⟨un _ (hq q z).1, by rw [(hq q z).2]; exact TL.numL_val _⟩
          have big : ∀ k : Nat, k ≤ 100 → 10 ^ k ≤ 2 ^ 400 := fun k h => Nat.le_trans (Nat.pow_le_pow_right (by decide) h) (by decide +kernel)
          have nb : n.natAbs < 2 ^ 400 := Nat.lt_of_lt_of_le bn (big _ la)
          have db : WT.dv c < 2 ^ 400 := Nat.lt_of_lt_of_le (WT.dv_lt _ _ rfl g2.1) (big _ lc)
          refine iteF ⟨_, rfl, SX.S c, _, rfl, ed, by rw [SX.S_len]; omega, rfl, _, rfl, ?_⟩
          by_cases d0 : WT.dv c = 0
          · rw [decide_eq_true (congrArg V.int (show ((WT.dv c : Nat) : Int) = 0 by omega))]
            refine iteT ⟨_, rfl, raiseV (InvX.up (bad fun ⟨q, z⟩ => ?_) e0)⟩
            have y := (vd q z.1).2
            have := q.den_pos
            omega
          · rw [decide_eq_false (fun e => d0 (by have := V.int.inj e; omega))]
            refine iteF ⟨rfl, _, rfl, SX.S a, n, rfl, en, by rw [SX.S_len]; omega, _, rfl, SX.S c, _, rfl, ed, by rw [SX.S_len]; omega, fun p2 dp hp2 hdp ne => ⟨p2, dp, n, ((WT.dv c : Nat) : Int), rfl, upd_same, .inl ⟨by omega, ?_, rfl, ?_⟩⟩⟩
            · rw [Int.natAbs_natCast]
              exact Nat.lt_of_lt_of_le db (Nat.pow_le_pow_right (by decide) (by decide))
            rw [upd_upd]
            obtain ⟨e2, ra⟩ := rat_new (C := C) hp2 hdp (Rat.divInt n ((WT.dv c : Nat) : Int))
            have sq : Sz 1900 (Rat.divInt n ((WT.dv c : Nat) : Int)) := ⟨Nat.lt_of_le_of_lt (num_le _ _ (by omega)) (Nat.lt_of_lt_of_le nb (Nat.pow_le_pow_right (by decide) (by decide))), Nat.lt_of_le_of_lt (den_le _ _ (by omega)) (by rw [Int.natAbs_natCast]; exact Nat.lt_of_lt_of_le db (Nat.pow_le_pow_right (by decide) (by decide)))⟩
            have back : ∀ q, cs = WT.ratL q → Rat.divInt n ((WT.dv c : Nat) : Int) = q := fun q z => by
              rw [(vd q z).1, (vd q z).2]
              exact Rat.num_divInt_den q
            generalize Rat.divInt n ((WT.dv c : Nat) : Int) = q at e2 ra sq back ⊢
            generalize upd (upd H1 dp (.own p2)) p2 (.ins C dp (ratF q)) = H2 at e2 ra ⊢
            refine ⟨_, rfl, p2, _, _, rfl, ra.choose_spec, rfl, p2, q, rfl, ra, sq, _, rfl, rfl, _, rfl, ?_⟩
            by_cases e : WT.ratL q = cs
            · refine iteNS (by rw [e]) ⟨_, rfl, good q ⟨e.symm, l1⟩ p2 _ (Ex.trans e0 e2) ra⟩
            · rw [decide_eq_false (fun z => e (SX.S_inj (V.str.inj z)))]
              refine iteT ⟨_, rfl, raiseV (InvX.up (bad fun ⟨r, z⟩ => ?_) (Ex.trans e0 e2))⟩
              exact e (by rw [back r z.1]; exact z.1.symm))
/-! ## a law's own quotients: tuples of top and bottom -/
abbrev s__law_parted : Stmt := top 26
theorem sc__law_parted : FnScope ["_law_top", "_law_bottom", "_law_one", "_law_other"] ["_law_top", "_law_bottom"] (defScope s__law_parted) := ⟨rfl, rfl, rfl, by decide +kernel, rfl, by decide +kernel, by decide +kernel⟩
def spFrac : Sp := fun vs H Q _ => ∃ u d, vs = [.int u, .int d] ∧ d ≠ 0 ∧ d.natAbs < 2 ^ 9000 ∧ RetPair H Q (Rat.divInt u d)
theorem ok_frac (F : FnP K "_law_parted" "_law_parted" s__law_parted [] f fd) (m_abs : mg "abs" = none) : FnX P w K mg base 1 f fd ["_law_top", "_law_bottom"] spFrac := by
  refine F.ok sc__law_parted (fun vs H Q E h => ?_) (fun cdv A outer s H vs Q E hr h => ?_)
  · obtain ⟨u, d, rfl, _⟩ := h
    rfl
  · obtain ⟨u, d, rfl, hd, hs, k⟩ := h
    refine ⟨_, (pss_cons (ps_par (i := 2) (j := 3) (by rfl) sc__law_parted.nd rfl rfl (by decide) rfl rfl (pa_cons (pe_callB call_abs (by rfl) m_abs (by decide +kernel) (pa_cons (pv 0) pa_nil)) (pa_cons (pe_callB call_abs (by rfl) m_abs (by decide +kernel) (pa_cons (pv 1) pa_nil)) pa_nil)) (by rfl))
      (pss_cons (ps_while (passes_of rfl) (pt_cmpR op_ne (pv 3) pe_int (nomark _)) (pss_one (ps_par (i := 2) (j := 3) (by rfl) sc__law_parted.nd rfl rfl (by decide) rfl rfl (pa_cons (pv 3) (pa_cons (pe_op op_mod (pv 2) (pv 3)) pa_nil)) (by rfl))))
      (pss_cons (ps_asg (pe_ifExp (pt_cmpR op_gt (pv 1) pe_int (nomark _)) (pv 2) (pe_un un_neg (pv 2))) (pg_name (i := 2) sc__law_parted.nd rfl (.inl rfl)))
      (pss_one (ps_ret (pe_tup (pa_cons (pe_op op_divA (pv 0) (pv 2)) (pa_cons (pe_op op_divA (pv 1) (pv 2)) pa_nil)))))))), ?_⟩
    have ab : ∀ i : Int, (if i < 0 then -i else i) = ((i.natAbs : Nat) : Int) := fun i => by split <;> omega
    refine ⟨_, rfl, _, rfl, _, rfl, _, rfl, _, _, rfl, ?_⟩
    rw [ab, ab]
    refine while_by (fun σ H' => H' = H ∧ ∃ a b : Int, σ = [some (.int u), some (.int d), some (.int a), some (.int b)] ∧ 0 ≤ a ∧ 0 ≤ b ∧ Nat.gcd a.natAbs b.natAbs = Nat.gcd u.natAbs d.natAbs) (fun σ _ => match σ with
      | [_, _, _, some (.int b)] => b.toNat
      | _ => 0) ⟨rfl, _, _, rfl, by omega, by omega, rfl⟩ ?_ ?_
    · rintro σ H' ⟨rfl, a, b, rfl, ha, hb, hg⟩
      refine ⟨_, rfl, rfl, _, rfl, ?_⟩
      by_cases hz : b = 0
      · rw [decide_eq_true (congrArg V.int hz)]
        refine iteF ?_
        subst hz
        have ea : a = ((Nat.gcd u.natAbs d.natAbs : Nat) : Int) := by
          rw [← hg]
          simp
          omega
        have hl : a.natAbs < 2 ^ 9000 := by
          rw [ea]
          exact Nat.lt_of_le_of_lt (by have := gcd_le u d hd; omega) hs
        have h0 := gcd_ne u d hd
        refine ⟨_, rfl, _, _, rfl, rfl, _, rfl, ?_⟩
        have fin : ∀ c : Int, c = (if 0 < d then ((Nat.gcd u.natAbs d.natAbs : Nat) : Int) else -((Nat.gcd u.natAbs d.natAbs : Nat) : Int)) → c.natAbs < 2 ^ 9000 → c ≠ 0 →
            tRet (tTup (tCons (tOp (rI DivA fun i j => .int (i.fdiv j)) (tVar 0) (tVar 2)) (tCons (tOp (rI DivA fun i j => .int (i.fdiv j)) (tVar 1) (tVar 2)) tNil))) { nx := fun _ H' => Q .non H', rt := Q } [some (.int u), some (.int d), some (.int c), some (.int 0)] H' := fun c hc l n => by
          refine ⟨_, rfl, _, rfl, _, _, rfl, rfl, divA n l (by decide), _, rfl, _, rfl, _, _, rfl, rfl, divA n l (by decide), (by show 2 ≤ sizeLine; decide), fun p hp => k p _ hp (Ex.new hp) ?_⟩
          show upd H' p (.tup [.int (u.fdiv c), .int (d.fdiv c)]) p = _
          rw [upd_same, frac_num u d hd c hc, frac_den u d hd c hc]
        refine ite2 (fun e => ?_) (fun e => ?_)
        · have e := of_decide_eq_true e
          exact ⟨_, rfl, fin a (by rw [if_pos e]; exact ea) hl (by omega)⟩
        · have e := fun z => e (decide_eq_true z)
          exact ⟨_, rfl, _, rfl, fin (-a) (by rw [if_neg e, ea]) (by rw [Int.natAbs_neg]; exact hl) (by omega)⟩
      · rw [decide_eq_false (fun z => hz (V.int.inj z))]
        refine iteT ?_
        have hb' : 0 < b := by omega
        refine ⟨_, rfl, _, rfl, _, rfl, _, _, rfl, rfl, hb', _, _, rfl, ⟨rfl, b, a % b, rfl, hb, Int.emod_nonneg _ hz, (euclid ha hb').trans hg⟩, ?_⟩
        have h1 := Int.emod_nonneg a hz
        have h2 := Int.emod_lt_of_pos a hb'
        show (a % b).toNat < b.toNat
        omega
    · rintro σ H' Q1 Q2 hq ⟨v, h1, h2, k', h3, h4⟩
      exact ⟨v, h1, h2, k', h3, hq _ _ h4⟩
/-! ## the law's own texts -/
abbrev s__law_text : Stmt := top 27
theorem sc__law_text : FnScope ["_law_x"] ["_law_x"] (defScope s__law_text) := ⟨rfl, rfl, rfl, by decide +kernel, rfl, by decide +kernel, by decide +kernel⟩
theorem ix0 {a b : V} : atI [a, b] 0 = some a := at_of (j := 0) rfl rfl
theorem ix1 {a b : V} : atI [a, b] 1 = some b := at_of (j := 1) rfl rfl
def spLText : Sp := fun vs H Q _ => ∃ p q, vs = [.ref p] ∧ RPair H p q ∧ Sz 1900 q ∧ Q (.str (SX.S (WT.ratL q))) H
theorem ok_ltext (F : FnP K "_law_text" "_law_text" s__law_text [] f fd) (m_str : mg "str" = none) : FnX P w K mg base 1 f fd ["_law_x"] spLText := by
  refine F.ok sc__law_text (fun vs H Q E h => ?_) (fun cdv A outer s H vs Q E hr h => ?_)
  · obtain ⟨p, q, rfl, _⟩ := h
    rfl
  · obtain ⟨p, q, rfl, hp, z, k⟩ := h
    refine ⟨_, (pss_one (ps_ret (pe_ifExp (pt_cmpR op_eq (pe_ix ix_tup (pv 0) pe_int (fun _ _ => rfl)) pe_int (nomark _)) (pe_callTy call_str_int (by rfl) m_str (by decide +kernel) (pa_cons (pe_ix ix_tup (pv 0) pe_int (fun _ _ => rfl)) pa_nil)) (pe_op op_add_str (pe_op op_add_str (pe_callTy call_str_int (by rfl) m_str (by decide +kernel) (pa_cons (pe_ix ix_tup (pv 0) pe_int (fun _ _ => rfl)) pa_nil)) pe_str) (pe_callTy call_str_int (by rfl) m_str (by decide +kernel) (pa_cons (pe_ix ix_tup (pv 0) pe_int (fun _ _ => rfl)) pa_nil)))))), ?_⟩
    have n1 := intL_short z.1
    have n2 := numL_short z.2
    have lg1 : q.num.natAbs.log2 < 1920 := Nat.lt_trans (log_lt z.1 (by decide)) (by decide)
    have lg2 : (q.den : Int).natAbs.log2 < 1920 := Nat.lt_trans (log_lt z.2 (by decide)) (by decide)
    unfold WT.ratL at k
    refine ⟨_, rfl, p, _, _, _, rfl, rfl, hp.sq, ix1, rfl, _, rfl, ?_⟩
    by_cases d : q.den = 1
    · rw [decide_eq_true (congrArg V.int (by omega : (q.den : Int) = 1))]
      rw [if_pos d, List.append_nil] at k
      exact iteT ⟨_, rfl, p, _, _, _, rfl, rfl, hp.sq, ix0, _, rfl, lg1, by rw [str_S]; exact k⟩
    · rw [decide_eq_false (fun e => d (by have := V.int.inj e; omega))]
      rw [if_neg d] at k
      refine iteF ⟨_, rfl, p, _, _, _, rfl, rfl, hp.sq, ix0, _, rfl, lg1, _, _, rfl, rfl, ?_, _, rfl, p, _, _, _, rfl, rfl, hp.sq, ix1, _, rfl, lg2, _, _, rfl, rfl, ?_, ?_⟩
      · rw [e1, str_S, SX.S_len, SX.S_len]
        exact line_ge (by show _ + 1 ≤ _; omega)
      · rw [e1, str_S, num_S', SX.S_cat, SX.S_len, SX.S_len, List.length_append]
        exact line_ge (by show _ + 1 + _ ≤ _; omega)
      · rw [e1, str_S, num_S', SX.S_cat, SX.S_cat, List.append_assoc]
        exact k
abbrev s__law_number : Stmt := top 28
theorem sc__law_number : FnScope ["_law_line", "_law_figures", "_law_sign"] ["_law_line"] (defScope s__law_number) := ⟨rfl, rfl, rfl, by decide +kernel, rfl, by decide +kernel, by decide +kernel⟩
theorem cut_head (cs : List Nat) : cutS (SX.S cs) none (some 1) = SX.S (cs.take 1) := by
  refine TL.ext_tl ?_
  show (cs.drop (HT.sIx (SX.S cs).length 0 none)).take (HT.sIx (SX.S cs).length (SX.S cs).length (some 1) - HT.sIx (SX.S cs).length 0 none) = cs.take 1
  rw [SX.S_len]
  cases cs with
  | nil => rfl
  | cons a b =>
    have e : HT.sIx (a :: b).length (a :: b).length (some 1) = 1 := by
      simp [HT.sIx]
      try omega
    rw [e]
    rfl
theorem cut_tail (cs : List Nat) : cutS (SX.S cs) (some 1) none = SX.S (cs.drop 1) := by
  refine TL.ext_tl ?_
  show (cs.drop (HT.sIx (SX.S cs).length 0 (some 1))).take (HT.sIx (SX.S cs).length (SX.S cs).length none - HT.sIx (SX.S cs).length 0 (some 1)) = cs.drop 1
  rw [SX.S_len]
  cases cs with
  | nil => rfl
  | cons a b =>
    have e : HT.sIx (a :: b).length 0 (some 1) = 1 := by
      simp [HT.sIx]
      try omega
    rw [e]
    show b.take ((a :: b).length - 1) = b
    rw [List.length_cons, Nat.add_sub_cancel, List.take_length]
theorem dash_eq (cs : List Nat) : decide (V.str (SX.S (cs.take 1)) = V.str (Str.ofString "-")) = decide (cs.head? = some 45) := by
  rw [show Str.ofString "-" = SX.S [45] by decide +kernel, decide_eq_decide]
  constructor
  · intro h
    have := SX.S_inj (V.str.inj h)
    cases cs with
    | nil => cases this
    | cons a b =>
      cases this
      rfl
  · intro h
    cases cs with
    | nil => cases h
    | cons a b =>
      cases (show a = 45 from Option.some.inj h)
      rfl
theorem digs : (Str.ofString "0123456789").cps.toList = [48, 49, 50, 51, 52, 53, 54, 55, 56, 57] := by decide +kernel
theorem dig_in (c : Nat) : decide (c ∈ (Str.ofString "0123456789").cps.toList) = decide (48 ≤ c ∧ c ≤ 57) := by
  rw [digs, decide_eq_decide]
  simp only [List.mem_cons, List.not_mem_nil, or_false]
  omega
/-- the signs that are no digits, one by one -/
def odds (f : List Nat) : List V := (f.filter fun c => !decide (48 ≤ c ∧ c ≤ 57)).map fun c => V.str ⟨#[c]⟩
theorem odds_step {f : List Nat} {i c : Nat} (h : f[i]? = some c) : odds (f.take (i + 1)) = odds (f.take i) ++ (if (!decide (48 ≤ c ∧ c ≤ 57)) = true then [V.str ⟨#[c]⟩] else []) := by
  unfold odds
  rw [List.take_add_one, h, List.filter_append, List.map_append]
  congr 1
  show List.map _ (List.filter _ [c]) = _
  rw [List.filter_cons]
  split <;> rfl
theorem odds_len (f : List Nat) : (odds f).length ≤ f.length := by
  unfold odds
  rw [List.length_map]
  exact List.length_filter_le ..
theorem odds_nil (f : List Nat) : odds f = [] ↔ NumText.AllDigits f := by
  unfold odds
  rw [List.map_eq_nil_iff, List.filter_eq_nil_iff]
  constructor
  · intro h c hc
    have := h c hc
    simpa using this
  · intro h c hc
    have := h c hc
    simpa using this
theorem codes_dp {H : Hp} : ∀ l : List Nat, (∀ c ∈ l, c < 128) → DpAll K H (l.map fun c => V.str ⟨#[c]⟩) (l.map fun c => PyData.str ⟨#[c]⟩) ∧ (PyData.list (l.map fun c => PyData.str ⟨#[c]⟩)).canLay0 = true ∧ (PyData.list (l.map fun c => PyData.str ⟨#[c]⟩)).depth ≤ 1
  | [], _ => ⟨.nil, rfl, by decide⟩
  | c :: r, h => by
    obtain ⟨a, b, d⟩ := codes_dp (H := H) r fun x hx => h x (List.mem_cons_of_mem _ hx)
    have hc := h c (List.mem_cons_self ..)
    refine ⟨.cons (.str _) a, ?_, ?_⟩
    · rw [List.map_cons]
      simp only [PyData.canLay0, PyData.canLayAll0] at b ⊢
      rw [b, Bool.and_true]
      show Array.all #[c] (· < 0x110000) = true
      have : c < 0x110000 := by omega
      simpa using this
    · rw [List.map_cons]
      simp only [PyData.depth, PyData.depthAll] at d ⊢
      omega
theorem zero_eq (c : Nat) : decide (V.str ⟨#[c]⟩ = V.str (Str.ofString "0")) = decide (c = 48) := by
  rw [show Str.ofString "0" = ⟨#[48]⟩ by decide +kernel, decide_eq_decide]
  constructor
  · intro h
    have := V.str.inj h
    simpa using this
  · rintro rfl
    rfl
theorem eqv_nil2 (ds : List PyData) : PyData.eqv (.list ds) (.list []) = decide (ds = []) := by
  cases ds with
  | nil => simp [PyData.eqv, PyData.eqvAll]
  | cons a r => simp [PyData.eqv, PyData.eqvAll]
theorem at_of' {f : List Nat} {c : Nat} {r : List Nat} (h : f = c :: r) : atI (SX.S f).cps.toList 0 = some c := by
  subst h
  exact atI_nat (j := 0) rfl
/-- a line of digits, perhaps behind a minus sign, no needless 0 ahead: a whole number's -/
theorem is_int {cs : List Nat} (g : NumText.AllDigits (WT.bare cs) ∧ WT.bare cs ≠ []) (h : (WT.bare cs).head? = some 48 → cs = [48]) : ∃ i, cs = WT.intL i := by
  unfold WT.bare at g h
  by_cases hd : cs.head? = some 45
  · rw [if_pos hd] at g h
    have n0 : cs.tail.head? ≠ some 48 := fun z => by
      have := h z
      subst this
      cases hd
    exact ⟨_, (WT.intL_iff cs _).mpr (.inl ⟨hd, ⟨g.1, g.2, fun z => absurd z n0⟩, fun z => n0 (by rw [z]; rfl), rfl⟩)⟩
  · rw [if_neg hd] at g h
    exact ⟨_, (WT.intL_iff cs _).mpr (.inr ⟨⟨g.1, g.2, h⟩, rfl⟩)⟩
theorem no_int {cs : List Nat} (h : (WT.bare cs).head? = some 48) (n : cs ≠ [48]) : ¬ ∃ i, cs = WT.intL i := fun ⟨i, e⟩ => by
  unfold WT.bare at h
  rcases (WT.intL_iff cs i).mp e with ⟨a, b, c, _⟩ | ⟨b, _⟩
  · rw [if_pos a] at h
    exact c (b.2.2 h)
  · rw [if_neg (WT.head_dig b)] at h
    exact n (b.2.2 h)
def spNum : Sp := fun vs H Q _ => ∃ cs : List Nat, vs = [.str (SX.S cs)] ∧ cs.length ≤ 600 ∧ (∀ c ∈ cs, c < 128) ∧ (∀ i H', Ex H H' → cs = WT.intL i → Q (.int i) H') ∧ ((¬ ∃ i, cs = WT.intL i) → ∀ H', Ex H H' → Q .non H')
theorem ok_number (F : FnP K "_law_number" "_law_number" s__law_number [] f fd) (m_int : mg "int" = none) : FnX P w K mg base 1 f fd ["_law_line"] spNum := by
  refine F.ok sc__law_number (fun vs H Q E h => ?_) (fun cdv A outer s H vs Q E hr h => ?_)
  · obtain ⟨cs, rfl, _⟩ := h
    rfl
  · obtain ⟨cs, rfl, l6, low, k1, k2⟩ := h
    refine ⟨_, (pss_cons (ps_asg (pe_ifExp (pt_cmpR op_eq (pe_slice sl_str (pv 0) po_none (po_some pe_int)) pe_str (nomark _)) (pe_slice sl_str (pv 0) (po_some pe_int) po_none) (pv 0)) (pg_name (i := 1) sc__law_number.nd rfl (.inl rfl)))
      (pss_cons (ps_if (PW.pt (pw_or (pt_cmpR op_eq (pv 1) pe_str (nomark _)) (pw_or1 (pt_cmpR (op_neD hr.units) (pe_lc (own := [("_law_sign", 2)]) (g := gName 2) (by rfl) sc__law_number.nd (pi_str (pv 1)) (blkOk_by (own := [("_law_sign", 2)]) (N := ["_law_line", "_law_figures", "_law_sign"]) (sc := defScope s__law_number) (by decide +kernel)) (fun _ _ _ _ _ => (pg_name (i := 2) sc__law_number.nd rfl (Or.inl rfl))) (fun _ _ _ _ _ => (pts_one (pt_cmpR op_notInS (pv 2) pe_str rfl))) (fun _ _ _ _ _ => (pv 2))) (pe_lst pa_nil) (nomark _))))) (pss_one (ps_ret pe_non)) pss_nil)
      (pss_cons (ps_if (PW.pt (pw_and (pt_cmpR op_eq (pe_ix ix_str (pv 1) pe_int (fun _ _ => rfl)) pe_str (nomark _)) (pw_and1 (pt_cmpR op_ne (pv 0) pe_str (nomark _))))) (pss_one (ps_ret pe_non)) pss_nil)
      (pss_one (ps_ret (pe_callTy call_int_str (by rfl) m_int (by decide +kernel) (pa_cons (pv 0) pa_nil))))))), ?_⟩
    have ll : (SX.S cs).length ≤ sizeLine := by
      rw [SX.S_len]
      exact line_ge (by omega)
    refine ⟨_, rfl, _, rfl, SX.S cs, rfl, ll, rfl, _, rfl, ?_⟩
    rw [cut_head, dash_eq]
    have none_ : (¬ (NumText.AllDigits (WT.bare cs) ∧ WT.bare cs ≠ [])) → ¬ ∃ i, cs = WT.intL i := fun h ⟨i, e⟩ => h (by rw [e]; exact WT.bare_intL i)
    have lf : (WT.bare cs).length ≤ 600 := by
      unfold WT.bare
      split
      · rw [List.length_tail]
        omega
      · exact l6
    by_cases hd : cs.head? = some 45
    case' pos =>
      rw [decide_eq_true hd]
      refine iteT ⟨_, rfl, _, rfl, SX.S cs, rfl, ll, ?_⟩
      rw [cut_tail, show cs.drop 1 = WT.bare cs by unfold WT.bare; rw [if_pos hd]; cases cs <;> rfl]
      show tSeq _ _ _ [some (.str (SX.S cs)), some (.str (SX.S (WT.bare cs))), none] H
    case' neg =>
      rw [decide_eq_false hd]
      refine iteF ⟨_, rfl, ?_⟩
      show tSeq _ _ _ [some (.str (SX.S cs)), some (.str (SX.S cs)), none] H
      rw [show [some (V.str (SX.S cs)), some (V.str (SX.S cs)), none] = [some (V.str (SX.S cs)), some (V.str (SX.S (WT.bare cs))), none] by unfold WT.bare; rw [if_neg hd]]
    all_goals (
      refine ⟨_, rfl, rfl, _, rfl, ?_⟩
      have hempty : decide (V.str (SX.S (WT.bare cs)) = V.str (Str.ofString "")) = decide (WT.bare cs = []) := by
        rw [show Str.ofString "" = SX.S [] by decide +kernel, decide_eq_decide]
        exact ⟨fun h => SX.S_inj (V.str.inj h), fun h => by rw [h]⟩
      rw [hempty]
      by_cases f0 : WT.bare cs = []
      · rw [decide_eq_true f0]
        exact iteT (iteT (k2 (none_ fun z => z.2 f0) H Ex.rfl))
      rw [decide_eq_false f0]
      refine iteF ⟨_, rfl, _, rfl, fun D hD => lc_it (walk_str (z := SX.S (WT.bare cs))) (fun i H' => Ex H H' ∧ H' D = some (.lst (odds ((WT.bare cs).take i)))) ⟨Ex.new hD, upd_same⟩ (fun _ _ _ _ => trivial) (fun i x H1 H2 hi p y => ?_) fun H1 p => ?_⟩
      · obtain ⟨eH, c, hc, ex⟩ := y
        subst eH ex
        have hc' : (WT.bare cs)[i]? = some c := by simpa using hc
        have st := odds_step hc'
        refine ⟨rfl, _, rfl, c, _, rfl, rfl, _, rfl, ?_⟩
        rw [dig_in]
        by_cases dg : 48 ≤ c ∧ c ≤ 57
        · rw [decide_eq_true dg] at st ⊢
          refine iteF ⟨p.1, ?_⟩
          rw [st]
          simpa using p.2
        · rw [decide_eq_false dg] at st ⊢
          have lo := odds_len ((WT.bare cs).take i)
          rw [List.length_take] at lo
          exact iteT ⟨_, rfl, _, p.2, len_line (by omega), p.1.mut hD, by rw [st]; exact upd_same⟩
      · obtain ⟨eH, hl⟩ := p
        rw [show (SX.S (WT.bare cs)).cps.size = (WT.bare cs).length by simp, List.take_length] at hl
        have lowf : ∀ c ∈ (WT.bare cs).filter (fun c => !decide (48 ≤ c ∧ c ≤ 57)), c < 128 := fun c hc => by
          have m := (List.mem_filter.mp hc).1
          unfold WT.bare at m
          by_cases e : cs.head? = some 45
          · rw [if_pos e] at m
            exact low c (List.mem_of_mem_tail m)
          · rw [if_neg e] at m
            exact low c m
        refine ⟨(by show 0 ≤ sizeLine; decide), fun z hz => ?_⟩
        obtain ⟨dp, cl, dt⟩ := codes_dp (K := K) (H := upd H1 z (.lst [])) _ lowf
        refine ⟨_, _, .lst (SqL.of (Ex.new hz _ _ hl)) dp, .lst (SqL.of upd_same) .nil, by rw [SeqAt.shaped, cl, decide_eq_true (Nat.le_trans dt (by decide))]; rfl, rfl, _, rfl, ?_⟩
        rw [eqv_nil2]
        have e2 : Ex H (upd H1 z (.lst [])) := Ex.trans eH (Ex.new hz)
        by_cases ad : NumText.AllDigits (WT.bare cs)
        · rw [decide_eq_true (by rw [List.map_eq_nil_iff]; exact List.map_eq_nil_iff.mp ((odds_nil _).mpr ad))]
          refine iteF ?_
          obtain ⟨c, r, ec⟩ : ∃ c r, WT.bare cs = c :: r := by
            cases h : WT.bare cs with
            | nil => exact absurd h f0
            | cons c r => exact ⟨c, r, rfl⟩
          have lfs : (SX.S (WT.bare cs)).length ≤ sizeLine := by
            rw [SX.S_len]
            exact line_ge (by omega)
          refine ⟨_, rfl, SX.S (WT.bare cs), 0, c, rfl, rfl, lfs, at_of' ec, rfl, _, rfl, ?_⟩
          rw [zero_eq]
          have fin : (c = 48 → cs = [48]) → ∃ n : Int, intText? (SX.S cs) = some n ∧ cs = WT.intL n := fun h => by
            obtain ⟨i, e⟩ := is_int ⟨ad, f0⟩ fun z => h (by rw [ec] at z; exact Option.some.inj z)
            obtain ⟨n, en, _, un⟩ := WT.read_int (a := cs) ⟨ad, f0⟩ l6
            rw [un i e] at en
            exact ⟨i, en, e⟩
          by_cases c0 : c = 48
          · rw [decide_eq_true c0]
            refine iteT ⟨_, rfl, rfl, _, rfl, ?_⟩
            by_cases cz : cs = [48]
            · obtain ⟨n, en, e⟩ := fin fun _ => cz
              rw [decide_eq_true (show V.str (SX.S cs) = V.str (Str.ofString "0") by rw [cz]; exact congrArg V.str (by decide +kernel))]
              exact iteF ⟨_, rfl, _, n, rfl, en, by rw [SX.S_len]; omega, k1 n _ e2 e⟩
            · rw [decide_eq_false (fun h => cz (SX.S_inj ((V.str.inj h).trans (show Str.ofString "0" = SX.S [48] by decide +kernel))))]
              exact iteT (k2 (no_int (by rw [ec, c0]; rfl) cz) _ e2)
          · rw [decide_eq_false c0]
            obtain ⟨n, en, e⟩ := fin fun z => absurd z c0
            exact iteF (iteF ⟨_, rfl, _, n, rfl, en, by rw [SX.S_len]; omega, k1 n _ e2 e⟩)
        · rw [decide_eq_false (fun z => ad ((odds_nil _).mp (List.map_eq_nil_iff.mpr (List.map_eq_nil_iff.mp z))))]
          exact iteT (k2 (none_ fun z => ad z.1) _ e2))
/-! ## the law reads -/
abbrev s__law_read : Stmt := top 29
theorem sc__law_read : FnScope ["_law_line", "_law_words", "_law_numbers", "_law_word"] ["_law_line"] (defScope s__law_read) := ⟨rfl, rfl, rfl, by decide +kernel, rfl, by decide +kernel, by decide +kernel⟩
/-- the words between slashes -/
theorem spl_parts (x : Nat) : ∀ (n : Nat) (cs : List Nat), cs.length = n → TL.spl [x] 0 [] cs ≠ [] ∧ (TL.spl [x] 0 [] cs).length ≤ cs.length + 1 ∧ ∀ w ∈ TL.spl [x] 0 [] cs, w.length ≤ cs.length ∧ ∀ c ∈ w, c ∈ cs := by
  intro n
  induction n using Nat.strongRecOn with
  | ind n ih =>
    intro cs hn
    by_cases m : x ∈ cs
    · obtain ⟨a, b, e, f⟩ := WT.first_at _ m
      subst e
      rw [WT.spl_at a [] b f]
      obtain ⟨h1, h2, h3⟩ := ih b.length (by rw [← hn, List.length_append, List.length_cons]; omega) b rfl
      refine ⟨List.cons_ne_nil _ _, ?_, fun w hw => ?_⟩
      · rw [List.length_cons, List.length_append, List.length_cons]
        omega
      · rcases List.mem_cons.mp hw with rfl | hw
        · exact ⟨by rw [List.length_append]; omega, fun c hc => List.mem_append_left _ hc⟩
        · obtain ⟨l, s⟩ := h3 w hw
          exact ⟨by rw [List.length_append, List.length_cons]; omega, fun c hc => List.mem_append_right _ (List.mem_cons_of_mem _ (s c hc))⟩
    · rw [WT.spl_free cs [] m]
      refine ⟨List.cons_ne_nil _ _, by simp, fun w hw => ?_⟩
      rw [List.nil_append, List.mem_singleton] at hw
      subst hw
      exact ⟨Nat.le_refl _, fun c hc => hc⟩
theorem words_of (cs : List Nat) : ∃ ws : List (List Nat), Txt.split (SX.S cs) (Str.ofString "/") = ws.map SX.S ∧ ws.length ≤ cs.length + 1 ∧ (∀ w ∈ ws, w.length ≤ cs.length ∧ ∀ c ∈ w, c ∈ cs) ∧
    ((ws = [cs] ∧ 47 ∉ cs) ∨ (∃ a b, ws = [a, b] ∧ cs = a ++ 47 :: b ∧ 47 ∉ a) ∨ (2 < ws.length ∧ ¬ ∃ q, cs = WT.ratL q)) := by
  obtain ⟨h1, h2, h3⟩ := spl_parts 47 _ cs rfl
  refine ⟨TL.spl [47] 0 [] cs, by rw [e1]; exact SX.split_S (by decide) (by decide), h2, h3, ?_⟩
  by_cases m : 47 ∈ cs
  · obtain ⟨a, b, e, f⟩ := WT.first_at _ m
    rw [e, WT.spl_at a [] b f, List.nil_append]
    by_cases m2 : 47 ∈ b
    · obtain ⟨c, d, e2, f2⟩ := WT.first_at _ m2
      rw [e2, WT.spl_at c [] d f2]
      refine .inr (.inr ⟨?_, fun ⟨q, hq⟩ => ?_⟩)
      · have := (spl_parts 47 _ d rfl).1
        cases hs : TL.spl [47] 0 [] d with
        | nil => exact absurd hs this
        | cons _ _ => simp
      · obtain ⟨_, y, _⟩ := (WT.ratL_two f q).mp hq
        exact TL.numL_free (n := q.den) (s := 47) (.inl (by decide)) (by rw [← y]; simp)
    · rw [WT.spl_free b [] m2, List.nil_append]
      exact .inr (.inl ⟨a, b, rfl, rfl, f⟩)
  · rw [WT.spl_free cs [] m]
    exact .inl ⟨rfl, m⟩
/-- what a word is read as -/
def ReadAs (ws : List (List Nat)) : Nat → V → Hp → Prop := fun i v _ => ∃ w, ws[i]? = some w ∧ ((∃ n, w = WT.intL n ∧ v = .int n) ∨ ((¬ ∃ n, w = WT.intL n) ∧ v = .non))
theorem numL_intL (d : Nat) : TL.numL d = WT.intL (d : Int) := by
  unfold WT.intL
  rw [if_neg (by omega), Int.natAbs_natCast]
theorem intL_lt {cs : List Nat} {n : Int} (e : cs = WT.intL n) (l : cs.length ≤ 600) : n.natAbs < 10 ^ cs.length := by
  obtain ⟨m, _, h, u⟩ := WT.read_int (a := cs) (by rw [e]; exact WT.bare_intL n) l
  rw [← u n e]
  exact h
def spLRead : Sp := fun vs H Q _ => ∃ cs : List Nat, vs = [.str (SX.S cs)] ∧ cs.length ≤ 600 ∧ (∀ c ∈ cs, c < 128) ∧ (∀ q, IsRat cs q → ∀ p H', Ex H H' → H' p = some (.tup [.int q.num, .int q.den]) → Q (.ref p) H') ∧ ((¬ ∃ q, IsRat cs q) → ∀ H', Ex H H' → Q .non H')
theorem ok_lread (F : FnP K "_law_read" "_law_read" s__law_read [] f fd) (c__law_number : Callee P w K mg base 1 "_law_number" ["_law_line"] spNum) (c__law_parted : Callee P w K mg base 1 "_law_parted" ["_law_top", "_law_bottom"] spFrac) (m_isinstance : mg "isinstance" = none) (m_str : mg "str" = none) (m_len : mg "len" = none) :
    FnX P w K mg base 3 f fd ["_law_line"] spLRead := by
  refine F.ok sc__law_read (fun vs H Q E h => ?_) (fun cdv A outer s H vs Q E hr h => ?_)
  · obtain ⟨cs, rfl, _⟩ := h
    rfl
  · obtain ⟨cs, rfl, l6, low, k1, k2⟩ := h
    refine ⟨_, (pss_cons (ps_if (PW.pt (pw_or (pt_not (pt_val (pe_callB call_isi (by rfl) m_isinstance (by decide +kernel) (pa_cons (pv 0) (pa_cons (pe_bltn (v := .ty "str") (by rfl) m_str (by decide +kernel) rfl) pa_nil))))) (pw_or1 (pt_cmpR op_gt (pe_callB call_len (by rfl) m_len (by decide +kernel) (pa_cons (pv 0) pa_nil)) pe_int (nomark _))))) (pss_one (ps_ret pe_non)) pss_nil)
      (pss_cons (ps_asg (pe_split (pv 0) pe_str) (pg_name (i := 1) sc__law_read.nd rfl (.inl rfl)))
      (pss_cons (ps_setLc (i := 2) (own := [("_law_word", 3)]) (g := gName 3) (by rfl) sc__law_read.nd rfl rfl (sw_true rfl rfl rfl (by decide +kernel)) (pi_list (pv 1)) (blkOk_by (own := [("_law_word", 3)]) (N := ["_law_line", "_law_words", "_law_numbers", "_law_word"]) (sc := defScope s__law_read) (by decide +kernel)) (fun _ _ _ _ _ => (pg_name (i := 3) sc__law_read.nd rfl (Or.inl rfl))) (fun _ _ _ _ _ => pts_nil) (fun _ _ _ _ _ => (pe_callee c__law_number (hr.mono (by decide)) (pa_cons (pv 3) pa_nil))))
      (pss_cons (ps_if (PW.pt (pw_or (pt_cmpR op_gt (pe_callB call_len (by rfl) m_len (by decide +kernel) (pa_cons (pv 1) pa_nil)) pe_int (nomark _)) (pw_or1 (pt_cmpR op_in_seq pe_non (pv 2) rfl)))) (pss_one (ps_ret pe_non)) pss_nil)
      (pss_cons (ps_if (pt_cmpR op_eq (pe_callB call_len (by rfl) m_len (by decide +kernel) (pa_cons (pv 1) pa_nil)) pe_int (nomark _)) (pss_one (ps_ret (pe_tup (pa_cons (pe_ix ix_list (pv 2) pe_int (fun _ _ => rfl)) (pa_cons pe_int pa_nil))))) pss_nil)
      (pss_cons (ps_if (PW.pt (pw_or (pt_cmpR op_lt (pe_ix ix_list (pv 2) pe_int (fun _ _ => rfl)) pe_int (nomark _)) (pw_or1 (pt_cmpR (op_neD hr.units) (pe_callee c__law_parted (hr.mono (by decide)) (pa_cons (pe_ix ix_list (pv 2) pe_int (fun _ _ => rfl)) (pa_cons (pe_ix ix_list (pv 2) pe_int (fun _ _ => rfl)) pa_nil))) (pe_tup (pa_cons (pe_ix ix_list (pv 2) pe_int (fun _ _ => rfl)) (pa_cons (pe_ix ix_list (pv 2) pe_int (fun _ _ => rfl)) pa_nil))) (nomark _))))) (pss_one (ps_ret pe_non)) pss_nil)
      (pss_one (ps_ret (pe_tup (pa_cons (pe_ix ix_list (pv 2) pe_int (fun _ _ => rfl)) (pa_cons (pe_ix ix_list (pv 2) pe_int (fun _ _ => rfl)) pa_nil))))))))))), ?_⟩
    have ll : (SX.S cs).length + 2 ≤ sizeLine := by
      rw [SX.S_len]
      exact line_ge (by omega)
    refine ⟨_, rfl, .str (SX.S cs), .ty "str", .type "str", _, true, rfl, .ty _, .base (.str _), kit_ty (by decide +kernel), true, rfl, iteF ⟨_, rfl, _, cs.length, rfl, ⟨Nat.le_trans (Nat.le_add_right _ 2) ll, by rw [SX.S_len]⟩, _, _, rfl, rfl, _, rfl, ?_⟩⟩
    by_cases l1 : cs.length ≤ 100
    rotate_left
    · rw [decide_eq_true (by omega)]
      exact iteT (k2 (fun ⟨q, z⟩ => l1 z.2) H Ex.rfl)
    rw [decide_eq_false (by omega)]
    refine iteF ?_
    have k1 : ∀ q, cs = WT.ratL q → ∀ p H', Ex H H' → H' p = some (.tup [.int q.num, .int q.den]) → Q (.ref p) H' := fun q e => k1 q ⟨e, l1⟩
    have k2 : (¬ ∃ q, cs = WT.ratL q) → ∀ H', Ex H H' → Q .non H' := fun h => k2 fun ⟨q, z⟩ => h ⟨q, z.1⟩
    obtain ⟨ws, hw, wl, wp, h3⟩ := words_of cs
    refine ⟨_, rfl, ⟨_, rfl⟩, _, _, rfl, rfl, by decide +kernel, ll, fun p hp => ?_⟩
    rw [hw]
    refine ⟨_, rfl, p, rfl, ⟨_, SqL.of upd_same⟩, fun D hD => lc_rel (ReadAs ws) (fun _ _ _ _ _ h => h) (fun _ _ _ _ _ _ h => h) hD (SqL.of upd_same) (by rw [List.length_map, List.length_map]; omega) (fun _ => rfl) (fun i x H' e hi Q' q => ?_) fun bs H2 e2 hb hl hv => ?_⟩
    · rw [List.map_map, List.getElem?_map] at hi
      obtain ⟨w', hw', rfl⟩ := Option.map_eq_some_iff.mp hi
      obtain ⟨h1, h2⟩ := wp w' (List.mem_of_getElem? hw')
      exact ⟨_, rfl, w', rfl, by omega, fun c hc => low c (h2 c hc), fun n H3 e3 z => q _ H3 e3 ⟨w', hw', .inl ⟨n, z, rfl⟩⟩, fun z H3 e3 => q _ H3 e3 ⟨w', hw', .inr ⟨z, rfl⟩⟩⟩
    have hb := SqL.of hb (K := K)
    have hp2 : SqL K H2 p (ws.map SX.S |>.map V.str) := SqL.of (e2 _ _ upd_same)
    have e0 : Ex H H2 := Ex.trans (Ex.new hp) e2
    have lb : bs.length = ws.length := by rw [hl, List.length_map, List.length_map]
    have flat : bs.all flatV = true := List.all_eq_true.mpr fun v hm => by
      obtain ⟨i, hi⟩ := List.getElem?_of_mem hm
      obtain ⟨w', _, ⟨n, _, rfl⟩ | ⟨_, rfl⟩⟩ := hv i v hi <;> rfl
    show tSeq _ _ _ [some (.str (SX.S cs)), some (.ref p), some (.ref D), none] H2
    have none_in : ∀ (v : V), v ∈ bs → v = .non → inV .non bs = true := fun v hm e => List.any_eq_true.mpr ⟨v, hm, by rw [e]; rfl⟩
    have none_out : (∀ v ∈ bs, ∃ n, v = V.int n) → inV .non bs = false := fun h => List.any_eq_false.mpr fun v hm => by
      obtain ⟨n, rfl⟩ := h v hm
      exact fun z => nomatch z
    have len_p : LenV K (.ref p) H2 ws.length := .inl ⟨_, hp2, by rw [List.length_map, List.length_map]⟩
    refine ⟨_, rfl, .ref p, ws.length, rfl, len_p, _, _, rfl, rfl, _, rfl, ?_⟩
    rcases h3 with ⟨rfl, f⟩ | ⟨a, b, rfl, ec, f⟩ | ⟨l3, no⟩
    rotate_left
    rotate_left
    · rw [decide_eq_true (show (2 : Int) < (ws.length : Int) by omega)]
      exact iteT (k2 no H2 e0)
    · rw [decide_eq_false (show ¬ (2 : Int) < (([cs] : List (List Nat)).length : Int) by show ¬ (2 : Int) < 1; decide)]
      obtain ⟨v, rfl⟩ : ∃ v, bs = [v] := List.length_eq_one_iff.mp lb
      obtain ⟨w', hw', h⟩ := hv 0 v rfl
      cases hw'
      refine iteF ⟨_, rfl, D, _, rfl, .inl hb, rfl, flat, ?_⟩
      rcases h with ⟨n, en, rfl⟩ | ⟨no, rfl⟩
      · rw [none_out fun v hm => ⟨n, List.mem_singleton.mp hm⟩]
        refine ⟨_, rfl, iteF ⟨_, rfl, .ref p, _, rfl, len_p, rfl, _, rfl, iteT ?_⟩⟩
        exact ⟨_, rfl, D, _, 0, .int n, rfl, rfl, hb, at_of (j := 0) rfl rfl, (by show 2 ≤ sizeLine; decide), fun p3 hp3 => k1 (n : Rat) ((WT.ratL_one f _).mpr ⟨n, en, rfl⟩) p3 _ (Ex.trans e0 (Ex.new hp3)) (by rw [Rat.num_intCast, Rat.den_intCast]; exact upd_same)⟩
      · rw [none_in .non (List.mem_singleton.mpr rfl) rfl]
        exact ⟨_, rfl, iteT (k2 (fun ⟨q, hq⟩ => no ((WT.ratL_one f q).mp hq |>.elim fun i h => ⟨i, h.1⟩)) H2 e0)⟩
    · rw [decide_eq_false (show ¬ (2 : Int) < (([a, b] : List (List Nat)).length : Int) by show ¬ (2 : Int) < 2; decide)]
      obtain ⟨v1, v2, rfl⟩ : ∃ v1 v2, bs = [v1, v2] := by
        match bs, lb with
        | [x, y], _ => exact ⟨x, y, rfl⟩
      obtain ⟨w1, hw1, h1⟩ := hv 0 v1 rfl
      obtain ⟨w2, hw2, h2⟩ := hv 1 v2 rfl
      cases hw1
      cases hw2
      have two : ∀ q, cs = WT.ratL q ↔ a = WT.intL q.num ∧ b = WT.intL (q.den : Int) ∧ q.den ≠ 1 := fun q => by
        rw [ec, ← numL_intL]
        exact WT.ratL_two f q
      refine iteF ⟨_, rfl, D, _, rfl, .inl hb, rfl, flat, ?_⟩
      rcases h1 with ⟨n1, en1, rfl⟩ | ⟨no, rfl⟩
      rotate_left
      · rw [none_in .non (List.mem_cons_self ..) rfl]
        exact ⟨_, rfl, iteT (k2 (fun ⟨q, hq⟩ => no ⟨_, ((two q).mp hq).1⟩) H2 e0)⟩
      rcases h2 with ⟨n2, en2, rfl⟩ | ⟨no, rfl⟩
      rotate_left
      · rw [none_in .non (List.mem_cons_of_mem _ (List.mem_cons_self ..)) rfl]
        exact ⟨_, rfl, iteT (k2 (fun ⟨q, hq⟩ => no ⟨_, ((two q).mp hq).2.1⟩) H2 e0)⟩
      rw [none_out fun v hm => by rcases List.mem_cons.mp hm with rfl | hm; exact ⟨n1, rfl⟩; exact ⟨n2, List.mem_singleton.mp hm⟩]
      have vals : ∀ q, cs = WT.ratL q → n1 = q.num ∧ n2 = (q.den : Int) ∧ q.den ≠ 1 := fun q hq => by
        obtain ⟨x, y, z⟩ := (two q).mp hq
        exact ⟨WT.intL_inj (en1.symm.trans x), WT.intL_inj (en2.symm.trans y), z⟩
      have at0 : atI [V.int n1, V.int n2] 0 = some (.int n1) := at_of (j := 0) rfl rfl
      have at1 : atI [V.int n1, V.int n2] 1 = some (.int n2) := at_of (j := 1) rfl rfl
      refine ⟨_, rfl, iteF ⟨_, rfl, .ref p, _, rfl, len_p, rfl, _, rfl, iteF ?_⟩⟩
      refine ⟨_, rfl, D, _, 1, _, rfl, rfl, hb, at1, _, _, rfl, rfl, _, rfl, ?_⟩
      by_cases n2s : n2 < 2
      · rw [decide_eq_true n2s]
        refine iteT (k2 (fun ⟨q, hq⟩ => ?_) H2 e0)
        obtain ⟨_, y, z⟩ := vals q hq
        have := q.den_pos
        omega
      rw [decide_eq_false n2s]
      have lb2 : b.length ≤ 600 := by
        have := (wp b (by simp)).1
        omega
      have n2b : n2.natAbs < 2 ^ 9000 := by
        have h := intL_lt en2 lb2
        have h1 : 10 ^ b.length ≤ 10 ^ 600 := Nat.pow_le_pow_right (by decide) lb2
        have h2 : 10 ^ 600 ≤ 2 ^ 9000 := by
          have : (10 : Nat) ^ 600 ≤ (2 ^ 4) ^ 600 := Nat.pow_le_pow_left (by decide) 600
          rw [← Nat.pow_mul] at this
          exact Nat.le_trans this (Nat.pow_le_pow_right (by decide) (by decide))
        omega
      refine iteF ⟨_, rfl, D, _, 0, _, rfl, rfl, hb, at0, _, rfl, D, _, 1, _, rfl, rfl, hb, at1, n1, n2, rfl, by omega, n2b, fun p3 H3 hp3 e3 r3 => ?_⟩
      have hb3 := SqL.ex hb e3
      refine ⟨_, rfl, D, _, 0, _, rfl, rfl, hb3, at0, _, rfl, D, _, 1, _, rfl, rfl, hb3, at1, (by show 2 ≤ sizeLine; decide), fun p4 hp4 => ?_⟩
      generalize hq : Rat.divInt n1 n2 = q at r3
      have e4 : Ex H3 (upd H3 p4 (.tup [.int n1, .int n2])) := Ex.new hp4
      have en : PyData.eqv (.tuple [.int q.num, .int q.den]) (.tuple [.int n1, .int n2]) = (q.num == n1 && ((q.den : Int) == n2)) := by simp [PyData.eqv, PyData.eqvAll]
      refine ⟨_, _, .tup (SqT.of (e4 _ _ r3)) (.cons (.int _) (.cons (.int _) .nil)), .tup (SqT.of upd_same) (.cons (.int _) (.cons (.int _) .nil)), rfl, rfl, _, rfl, ?_⟩
      rw [en]
      by_cases eq : q.num = n1 ∧ (q.den : Int) = n2
      · obtain ⟨x, y⟩ := eq
        rw [show (!(q.num == n1 && ((q.den : Int) == n2))) = false by rw [x, y]; simp]
        refine iteF ⟨_, rfl, D, _, 0, _, rfl, rfl, SqL.ex hb3 e4, at0, _, rfl, D, _, 1, _, rfl, rfl, SqL.ex hb3 e4, at1, (by show 2 ≤ sizeLine; decide), fun p5 hp5 => k1 q ((two q).mpr ⟨by rw [x]; exact en1, by rw [y]; exact en2, by omega⟩) p5 _ (Ex.trans e0 (Ex.trans e3 (Ex.trans e4 (Ex.new hp5)))) (by rw [x, y]; exact upd_same)⟩
      · rw [show (!(q.num == n1 && ((q.den : Int) == n2))) = true by
          cases h : (q.num == n1 && ((q.den : Int) == n2)) with
          | false => rfl
          | true =>
            rw [Bool.and_eq_true, beq_iff_eq, beq_iff_eq] at h
            exact absurd h eq]
        refine iteT (k2 (fun ⟨r, hr⟩ => eq ?_) _ (Ex.trans e0 (Ex.trans e3 e4)))
        obtain ⟨x, y, _⟩ := vals r hr
        have : q = r := by rw [← hq, x, y]; exact Rat.num_divInt_den r
        rw [this]
        exact ⟨x.symm, y.symm⟩
/-! ## drawn quotients -/
theorem bits_lt {i : Int} {n : Nat} (hn : 0 < n) (h : i.natAbs < 2 ^ n) : PySem.Builtin.Int.intBits i ≤ n := by
  unfold PySem.Builtin.Int.intBits
  split
  · omega
  · exact PySem.Flt.log2_lt_of hn h
def CPowB (i j : Int) : Prop := 0 ≤ j ∧ (PySem.Builtin.Int.intBits i : Int) * j ≤ 2 ^ 27
theorem op_powB {X : Cx} : OpR X (binaryOp .Pow) (rI CPowB fun i j => .int (i ^ j.toNat)) := opI fun _ _ _ _ _ _ _ hc q => pow_int hc.1 hc.2 q
abbrev s__law_drawn : Stmt := top 30
theorem sc__law_drawn : FnScope ["_law_bag_here", "_law_near", "_law_top", "_law_bottom"] ["_law_bag_here"] (defScope s__law_drawn) := ⟨rfl, rfl, rfl, by decide +kernel, rfl, by decide +kernel, by decide +kernel⟩
def spLDrawn : Sp := fun vs H Q _ => ∃ m n, vs = [.ref m] ∧ BagAt H m n ∧ n + 6 ≤ 2 ^ 30 ∧ ∀ p q H', Sz 100 q → RPair H' p q → Kp m H H' → BagAt H' m (n + 6) → Q (.ref p) H'
theorem ok_drawn (F : FnP K "_law_drawn" "_law_drawn" s__law_drawn [] f fd) (c__law_take : Callee P w K mg base 1 "_law_take" ["_law_bag_here", "_law_many"] spTake) (c__law_parted : Callee P w K mg base 1 "_law_parted" ["_law_top", "_law_bottom"] spFrac) :
    FnX P w K mg base 2 f fd ["_law_bag_here"] spLDrawn := by
  refine F.ok sc__law_drawn (fun vs H Q E h => ?_) (fun cdv A outer s H vs Q E hr h => ?_)
  · obtain ⟨m, n, rfl, _⟩ := h
    rfl
  · obtain ⟨m, n, rfl, b0, hn, k⟩ := h
    refine ⟨_, (pss_cons (ps_asg (pe_lst (pa_cons (pe_op op_sub (pe_callee c__law_take (hr.mono (by decide)) (pa_cons (pv 0) (pa_cons pe_int pa_nil))) pe_int) (pa_cons (pe_callee c__law_take (hr.mono (by decide)) (pa_cons (pv 0) (pa_cons (pe_op op_pow pe_int pe_int) pa_nil))) (pa_cons (pe_op op_sub (pe_op op_pow pe_int pe_int) pe_int) (pa_cons (pe_callee c__law_take (hr.mono (by decide)) (pa_cons (pv 0) (pa_cons pe_int pa_nil))) pa_nil))))) (pg_name (i := 1) sc__law_drawn.nd rfl (.inl rfl)))
      (pss_cons (ps_par (i := 2) (j := 3) (by rfl) sc__law_drawn.nd rfl rfl (by decide) rfl rfl (pa_cons (pe_ix ix_list (pv 1) (pe_callee c__law_take (hr.mono (by decide)) (pa_cons (pv 0) (pa_cons pe_int pa_nil))) (fun _ _ => rfl)) (pa_cons (pe_ix ix_list (pv 1) (pe_callee c__law_take (hr.mono (by decide)) (pa_cons (pv 0) (pa_cons pe_int pa_nil))) (fun _ _ => rfl)) pa_nil)) (by rfl))
      (pss_one (ps_ret (pe_callee c__law_parted (hr.mono (by decide)) (pa_cons (pe_op op_mulW (pv 2) (pe_ix ix_list (pe_lst (pa_cons pe_int (pa_cons (pe_un un_neg pe_int) pa_nil))) (pe_callee c__law_take (hr.mono (by decide)) (pa_cons (pv 0) (pa_cons pe_int pa_nil))) (fun _ _ => rfl))) (pa_cons (pe_op op_add pe_int (pe_op op_mod (pe_op op_powB (pv 3) pe_int) (pe_op op_pow pe_int pe_int))) pa_nil))))))), ?_⟩
    refine ⟨_, rfl, m, 13, n, rfl, by decide, by decide, b0, by omega, fun r1 H1 r10 r11 k1 b1 => ⟨_, _, rfl, rfl, ?_⟩⟩
    refine ⟨_, rfl, _, _, rfl, rfl, ⟨by decide, by decide, by decide⟩, m, _, n + 1, rfl, by decide, ?_, b1, by omega, fun r2 H2 r20 r21 k2 b2 => ?_⟩
    · exact Nat.lt_of_lt_of_le (show (10 ^ 30 : Nat) < 2 ^ 100 by decide) (Nat.pow_le_pow_right (by decide) (by decide))
    have r21' : r2 < 10 ^ 30 := r21
    refine ⟨_, _, rfl, rfl, ⟨by decide, by decide, by decide⟩, _, _, rfl, rfl, ?_⟩
    refine ⟨_, rfl, m, 999, n + 2, rfl, by decide, by decide, b2, by omega, fun r3 H3 r30 r31 k3 b3 => ⟨(by show 4 ≤ sizeLine; decide), fun l hl => ?_⟩⟩
    have atL : ∀ way : Int, 0 ≤ way → way < 4 → ∃ v : Int, v.natAbs < 2 ^ 100 ∧ atI ([.int (r1 - 6), .int r2, .int (10 ^ 30 - 1), .int r3] : List V) way = some (.int v) := fun way h0 h1 => by
      have hw : way = 0 ∨ way = 1 ∨ way = 2 ∨ way = 3 := by omega
      rcases hw with rfl | rfl | rfl | rfl
      · exact ⟨r1 - 6, by omega, at_of (j := 0) rfl rfl⟩
      · exact ⟨r2, by omega, at_of (j := 1) rfl rfl⟩
      · exact ⟨10 ^ 30 - 1, by decide, at_of (j := 2) rfl rfl⟩
      · exact ⟨r3, by omega, at_of (j := 3) rfl rfl⟩
    have kl := (Ex.new hl (o := .lst [.int (r1 - 6), .int r2, .int (10 ^ 30 - 1), .int r3])).kp (m := m)
    have bl := b3.ex (Ex.new hl (o := .lst [.int (r1 - 6), .int r2, .int (10 ^ 30 - 1), .int r3]))
    have hL : upd H3 l (.lst [.int (r1 - 6), .int r2, .int (10 ^ 30 - 1), .int r3]) l = some (.lst [.int (r1 - 6), .int r2, .int (10 ^ 30 - 1), .int r3]) := upd_same
    have hlm := b3.free hl
    have kk := ((k1.trans k2).trans k3).trans kl
    refine ⟨_, rfl, _, rfl, m, 4, n + 3, rfl, by decide, by decide, bl, by omega, fun w1 H5 w10 w11 k5 b5 => ?_⟩
    obtain ⟨v1, hv1, ev1⟩ := atL w1 w10 w11
    have hL5 := k5 _ _ hL hlm
    refine ⟨l, _, _, _, rfl, rfl, SqL.of hL5, ev1, ?_⟩
    refine ⟨_, rfl, _, rfl, m, 4, n + 4, rfl, by decide, by decide, b5, by omega, fun w2 H6 w20 w21 k6 b6 => ?_⟩
    obtain ⟨v2, hv2, ev2⟩ := atL w2 w20 w21
    have hL6 := k6 _ _ hL5 hlm
    refine ⟨l, _, _, _, rfl, rfl, SqL.of hL6, ev2, _, _, rfl, ?_⟩
    have kk6 := (kk.trans k5).trans k6
    refine ⟨_, rfl, _, rfl, (by show 2 ≤ sizeLine; decide), fun l2 hl2 => ?_⟩
    have hlm2 := b6.free hl2
    refine ⟨_, rfl, m, 2, n + 5, rfl, by decide, by decide, b6.ex (Ex.new hl2), by omega, fun w3 H7 w30 w31 k7 b7 => ?_⟩
    have hL7 := k7 _ _ upd_same hlm2
    have kk7 := (kk6.trans (Ex.new hl2).kp).trans k7
    have one : ∃ s : Int, s.natAbs = 1 ∧ atI ([.int 1, .int (-1)] : List V) w3 = some (.int s) := by
      have hw : w3 = 0 ∨ w3 = 1 := by omega
      rcases hw with rfl | rfl
      · exact ⟨1, rfl, at_of (j := 0) rfl rfl⟩
      · exact ⟨-1, rfl, at_of (j := 1) rfl rfl⟩
    obtain ⟨sg, hs, es⟩ := one
    refine ⟨l2, _, _, _, rfl, rfl, SqL.of hL7, es, _, _, rfl, rfl, wide_mul (b := 1) hv1 (by rw [hs]; decide) (by decide) (by decide) (by decide), ?_⟩
    refine ⟨_, rfl, _, _, rfl, rfl, ⟨by decide, ?_⟩, _, _, rfl, rfl, ⟨by decide, by decide, by decide⟩, _, _, rfl, rfl, (show (0 : Int) < 10 ^ Int.toNat 29 by decide), _, _, rfl, rfl, ?_⟩
    · have := bits_lt (by decide) hv2
      show ((PySem.Builtin.Int.intBits v2 : Nat) : Int) * 2 ≤ 2 ^ 27
      omega
    have hd : ∀ x : Int, 0 < 1 + x % (10 ^ 29) ∧ 1 + x % (10 ^ 29) ≤ 10 ^ 29 := fun x => by
      have h1 : (0 : Int) < 10 ^ 29 := by decide
      have := Int.emod_nonneg x (by decide : (10 ^ 29 : Int) ≠ 0)
      have := Int.emod_lt_of_pos x h1
      omega
    have hd := hd (v2 ^ (2 : Int).toNat)
    have hd' : (1 + v2 ^ (2 : Int).toNat % (10 ^ 29)).natAbs < 2 ^ 100 := by
      have h2 : (10 ^ 29 : Int).natAbs < 2 ^ 100 := by decide
      omega
    have hu : (v1 * sg).natAbs < 2 ^ 100 := by rw [Int.natAbs_mul, hs, Nat.mul_one]; exact hv1
    refine ⟨v1 * sg, 1 + v2 ^ (2 : Int).toNat % (10 ^ 29), rfl, by omega, Nat.lt_of_lt_of_le hd' (Nat.pow_le_pow_right (by decide) (by decide)), fun p H8 hp e8 rp => k p _ H8 ?_ rp (kk7.trans e8.kp) (b7.ex e8)⟩
    exact ⟨Nat.lt_of_le_of_lt (num_le _ _ (by omega)) (Nat.lt_of_lt_of_le hu (Nat.pow_le_pow_right (by decide) (by decide))), Nat.lt_of_le_of_lt (den_le _ _ (by omega)) (Nat.lt_of_lt_of_le hd' (Nat.pow_le_pow_right (by decide) (by decide)))⟩
/-! ## spoilt texts -/
abbrev s__law_spoilt : Stmt := top 31
theorem sc__law_spoilt : FnScope ["_law_bag_here", "_law_x", "_law_line", "_law_place", "_law_sign", "_law_some"] ["_law_bag_here", "_law_x"] (defScope s__law_spoilt) := ⟨rfl, rfl, rfl, by decide +kernel, rfl, by decide +kernel, by decide +kernel⟩
/-- a text of at most so many signs, low ones -/
def SN (n : Nat) (z : Str) : Prop := ∃ cs : List Nat, z = SX.S cs ∧ cs.length ≤ n ∧ ∀ c ∈ cs, c < 128
theorem SN.lit {z : Str} (cs : List Nat) (h : z = SX.S cs) (l : cs.all (· < 128) = true) : SN cs.length z := ⟨cs, h, Nat.le_refl _, fun c hc => by simpa using List.all_eq_true.mp l c hc⟩
theorem SN.mono {n k : Nat} {z : Str} (h : SN n z) (l : n ≤ k) : SN k z := by
  obtain ⟨cs, e, a, b⟩ := h
  exact ⟨cs, e, Nat.le_trans a l, b⟩
theorem SN.cat {n k : Nat} {x y : Str} (h : SN n x) (g : SN k y) : SN (n + k) (x ++ y) := by
  obtain ⟨cs, rfl, a, b⟩ := h
  obtain ⟨ds, rfl, c, d⟩ := g
  exact ⟨cs ++ ds, SX.S_cat _ _, by rw [List.length_append]; omega, fun x hx => (List.mem_append.mp hx).elim (b x) (d x)⟩
theorem SN.cut {n : Nat} {z : Str} (h : SN n z) (i j : Option Int) : SN n (cutS z i j) := by
  obtain ⟨cs, rfl, a, b⟩ := h
  have e : cutS (SX.S cs) i j = SX.S ((cs.drop (HT.sIx (SX.S cs).length 0 i)).take (HT.sIx (SX.S cs).length (SX.S cs).length j - HT.sIx (SX.S cs).length 0 i)) := TL.ext_tl rfl
  refine ⟨_, e, ?_, fun c hc => b c (List.mem_of_mem_drop (List.mem_of_mem_take hc))⟩
  rw [List.length_take, List.length_drop]
  omega
theorem SN.len {n : Nat} {z : Str} (h : SN n z) (l : n ≤ 100000) : z.length ≤ sizeLine := by
  obtain ⟨cs, rfl, a, b⟩ := h
  rw [SX.S_len]
  exact line_ge (by omega)
theorem cat_len {n k : Nat} {x y : Str} (h : SN n x) (g : SN k y) (l : n + k ≤ 100000) : x.length + y.length ≤ sizeLine := by
  obtain ⟨cs, rfl, a, b⟩ := h
  obtain ⟨ds, rfl, c, d⟩ := g
  rw [SX.S_len, SX.S_len]
  exact line_ge (by omega)
theorem cat_ok {a b : Addr} {xs ys : List V} {H : Hp} {Q : VK} (ha : H a = some (.lst xs)) (hb : H b = some (.lst ys)) (l : xs.length + ys.length ≤ sizeLine) (k : ∀ p H', Ex H H' → H p = none → H' p = some (.lst (xs ++ ys)) → Q (.ref p) H') : rCat (.ref a) (.ref b) H Q :=
  ⟨a, b, xs, ys, rfl, rfl, ha, hb, l, fun p hp => k p _ (Ex.new hp) hp upd_same⟩
/-- a text that is short enough, of low signs -/
def StrOk (v : V) : Prop := ∃ z, v = .str z ∧ SN 600 z
theorem okS {n : Nat} {z : Str} (h : SN n z) (l : n ≤ 600) : StrOk (.str z) := ⟨z, rfl, h.mono l⟩
theorem num_sn {n : Nat} (h : n < 2 ^ 101) : SN 31 (Str.ofString (toString ((n : Nat) : Int))) := by
  rw [num_S']
  exact ⟨_, rfl, TL.numL_len (by decide) (Nat.lt_of_lt_of_le h (by decide +kernel)), fun c hc => by have := TL.numL_digits n c hc; omega⟩
theorem int_sn {i : Int} (h : i.natAbs < 2 ^ 101) : SN 32 (Str.ofString (toString i)) := by
  rw [str_S]
  refine ⟨_, rfl, ?_, fun c hc => ?_⟩
  · unfold WT.intL
    have := TL.numL_len (n := i.natAbs) (k := 31) (by decide) (Nat.lt_of_lt_of_le h (by decide +kernel))
    split
    · rw [List.length_cons]
      omega
    · omega
  · unfold WT.intL at hc
    split at hc
    · rcases List.mem_cons.mp hc with rfl | hc
      · decide
      · have := TL.numL_digits _ c hc
        omega
    · have := TL.numL_digits _ c hc
      omega
theorem rat_sn {q : Rat} (z : Sz 100 q) : SN 64 (SX.S (WT.ratL q)) := by
  unfold WT.ratL
  rw [← SX.S_cat, ← str_S]
  refine SN.mono (SN.cat (k := 32) (int_sn (Nat.lt_trans z.1 (by decide))) ?_) (by decide)
  split
  · exact ⟨[], rfl, by decide, fun c hc => nomatch hc⟩
  · rw [show 47 :: TL.numL q.den = [47] ++ TL.numL q.den from rfl, ← SX.S_cat, ← num_S']
    exact SN.mono (SN.cat (n := 1) ⟨[47], rfl, by decide, by decide⟩ (num_sn (Nat.lt_trans z.2 (by decide)))) (by decide)
def spLSpoilt : Sp := fun vs H Q _ => ∃ m n p q, vs = [.ref m, .ref p] ∧ BagAt H m n ∧ n + 3 ≤ 2 ^ 30 ∧ RPair H p q ∧ Sz 100 q ∧ ∀ v H', StrOk v → Kp m H H' → BagAt H' m (n + 3) → Q v H'
theorem ok_spoilt (F : FnP K "_law_spoilt" "_law_spoilt" s__law_spoilt [] f fd) (c__law_take : Callee P w K mg base 1 "_law_take" ["_law_bag_here", "_law_many"] spTake) (c__law_text : Callee P w K mg base 1 "_law_text" ["_law_x"] spLText) (m_len : mg "len" = none) (m_str : mg "str" = none) :
    FnX P w K mg base 2 f fd ["_law_bag_here", "_law_x"] spLSpoilt := by
  refine F.ok sc__law_spoilt (fun vs H Q E h => ?_) (fun cdv A outer s H vs Q E hr h => ?_)
  · obtain ⟨m, n, p, q, rfl, _⟩ := h
    rfl
  · obtain ⟨m, n, p, q, rfl, b0, hn, hp, hz, k⟩ := h
    refine ⟨_, (pss_cons (ps_asg (pe_callee c__law_text (hr.mono (by decide)) (pa_cons (pv 1) pa_nil)) (pg_name (i := 2) sc__law_spoilt.nd rfl (.inl rfl)))
      (pss_cons (ps_asg (pe_callee c__law_take (hr.mono (by decide)) (pa_cons (pv 0) (pa_cons (pe_op op_add (pe_callB call_len (by rfl) m_len (by decide +kernel) (pa_cons (pv 2) pa_nil)) pe_int) pa_nil))) (pg_name (i := 3) sc__law_spoilt.nd rfl (.inl rfl)))
      (pss_cons (ps_asg (pe_ix ix_str pe_str (pe_callee c__law_take (hr.mono (by decide)) (pa_cons (pv 0) (pa_cons pe_int pa_nil))) (fun _ _ => rfl)) (pg_name (i := 4) sc__law_spoilt.nd rfl (.inl rfl)))
      (pss_cons (ps_asg (pe_lst (pa_cons (pe_op op_add_str (pe_op op_add_str (pe_slice sl_str (pv 2) po_none (po_some (pv 3))) (pv 4)) (pe_slice sl_str (pv 2) (po_some (pv 3)) po_none)) (pa_cons (pe_op op_add_str (pe_slice sl_str (pv 2) po_none (po_some (pv 3))) (pe_slice sl_str (pv 2) (po_some (pe_op op_add (pv 3) pe_int)) po_none)) (pa_cons (pe_op op_add_str (pv 2) pe_str) (pa_cons (pe_op op_add_str (pv 2) pe_str) (pa_cons (pe_op op_add_str pe_str (pv 2)) pa_nil)))))) (pg_name (i := 5) sc__law_spoilt.nd rfl (.inl rfl)))
      (pss_cons (ps_asg (pe_op op_cat (pv 5) (pe_lst (pa_cons (pe_op op_add_str (pe_op op_add_str (pe_slice sl_str (pv 2) po_none (po_some (pv 3))) (pv 4)) (pe_slice sl_str (pv 2) (po_some (pe_op op_add (pv 3) pe_int)) po_none)) (pa_cons (pe_op op_add_str pe_str (pv 2)) (pa_cons (pe_op op_add_str (pv 2) pe_str) (pa_cons (pe_op op_add_str pe_str (pv 2)) (pa_cons (pe_op op_add_str pe_str (pv 2)) (pa_cons (pe_op op_add_str pe_str (pv 2)) pa_nil)))))))) (pg_name (i := 5) sc__law_spoilt.nd rfl (.inl rfl)))
      (pss_cons (ps_asg (pe_op op_cat (pv 5) (pe_lst (pa_cons (pe_op op_add_str (pe_op op_add_str (pe_callTy call_str_int (by rfl) m_str (by decide +kernel) (pa_cons (pe_op op_mulW pe_int (pe_ix ix_tup (pv 1) pe_int (fun _ _ => rfl))) pa_nil)) pe_str) (pe_callTy call_str_int (by rfl) m_str (by decide +kernel) (pa_cons (pe_op op_mulW pe_int (pe_ix ix_tup (pv 1) pe_int (fun _ _ => rfl))) pa_nil))) (pa_cons (pe_op op_add_str pe_str (pe_op op_rep_str pe_str pe_int)) (pa_cons (pe_op op_rep_str pe_str pe_int) (pa_cons (pe_op op_rep_str pe_str pe_int) (pa_cons (pe_op op_add_str pe_str (pe_op op_rep_str pe_str pe_int)) pa_nil))))))) (pg_name (i := 5) sc__law_spoilt.nd rfl (.inl rfl)))
      (pss_one (ps_ret (pe_ix ix_list (pe_op op_cat (pv 5) (pe_lst (pa_cons pe_str (pa_cons pe_str (pa_cons pe_str (pa_cons pe_str (pa_cons pe_str (pa_cons pe_str (pa_cons (pv 2) pa_nil))))))))) (pe_callee c__law_take (hr.mono (by decide)) (pa_cons (pv 0) (pa_cons pe_int pa_nil))) (fun _ _ => rfl)))))))))), ?_⟩
    have hline := rat_sn hz
    refine ⟨_, rfl, p, q, rfl, hp, hz.mono (by decide), ?_⟩
    generalize SX.S (WT.ratL q) = L at hline ⊢
    have hl := hline.len (by decide)
    refine ⟨_, rfl, _, rfl, _, L.length, rfl, ⟨hl, rfl⟩, _, _, rfl, rfl, m, _, n, rfl, by omega, ?_, b0, by omega, fun pl H1 p0 p1 k1 b1 => ?_⟩
    · obtain ⟨cs, rfl, a, _⟩ := hline
      rw [SX.S_len]
      have : (100 : Nat) < 2 ^ 9000 := Nat.lt_of_lt_of_le (by decide : 100 < 2 ^ 7) (Nat.pow_le_pow_right (by decide) (by decide))
      omega
    refine ⟨_, rfl, m, 17, n + 1, rfl, by decide, by decide, b1, by omega, fun sg H2 s0 s1 k2 b2 => ?_⟩
    obtain ⟨j, rfl⟩ : ∃ j : Nat, sg = (j : Int) := ⟨sg.toNat, by omega⟩
    obtain ⟨c, hc, hcl⟩ : ∃ c, atI (Str.ofString "0123456789/-+ .e_").cps.toList (j : Int) = some c ∧ c < 128 := by
      have hl : (Str.ofString "0123456789/-+ .e_").cps.toList.length = 17 := by decide +kernel
      have ha : (Str.ofString "0123456789/-+ .e_").cps.toList.all (· < 128) = true := by decide +kernel
      generalize (Str.ofString "0123456789/-+ .e_").cps.toList = xs at hl ha ⊢
      have hj : j < xs.length := by omega
      exact ⟨xs[j], atI_nat (List.getElem?_eq_getElem hj), by simpa using List.all_eq_true.mp ha _ (List.getElem_mem hj)⟩
    refine ⟨_, (j : Int), c, rfl, rfl, by decide +kernel, hc, ?_⟩
    have hsg : SN 1 (⟨#[c]⟩ : Str) := ⟨[c], rfl, Nat.le_refl _, fun x hx => by rw [List.mem_singleton.mp hx]; exact hcl⟩
    generalize (⟨#[c]⟩ : Str) = G at hsg ⊢
    have ha := hline.cut none (some pl)
    have hb := hline.cut (some pl) none
    have hb2 := hline.cut (some (pl + 1)) none
    have c1 := cat_len ha hsg (by decide)
    have h1 := ha.cat hsg
    have c2 := cat_len h1 hb (by decide)
    have h2 := h1.cat hb
    have c3 := cat_len ha hb2 (by decide)
    have h3 := ha.cat hb2
    have c4 := cat_len h1 hb2 (by decide)
    have h4 := h1.cat hb2
    have lit1 := SN.lit [47, 49] (show Str.ofString "/1" = _ by decide +kernel) (by decide)
    have lit2 := SN.lit [47, 48] (show Str.ofString "/0" = _ by decide +kernel) (by decide)
    have lit3 := SN.lit [43] (show Str.ofString "+" = _ by decide +kernel) (by decide)
    have lit4 := SN.lit [32] (show Str.ofString " " = _ by decide +kernel) (by decide)
    have lit5 := SN.lit [10] (show Str.ofString "\n" = _ by decide +kernel) (by decide)
    have lit6 := SN.lit [48] (show Str.ofString "0" = _ by decide +kernel) (by decide)
    have lit7 := SN.lit [45] (show Str.ofString "-" = _ by decide +kernel) (by decide)
    have lit8 := SN.lit [47] (show Str.ofString "/" = _ by decide +kernel) (by decide)
    refine ⟨_, rfl, _, rfl, pl, rfl, L, rfl, hl, _, rfl, _, _, rfl, rfl, c1, _, rfl, _, rfl, pl, rfl, L, rfl, hl, _, _, rfl, rfl, c2, ?_⟩
    refine ⟨_, rfl, _, rfl, pl, rfl, L, rfl, hl, _, rfl, _, rfl, _, _, rfl, rfl, _, rfl, L, rfl, hl, _, _, rfl, rfl, c3, ?_⟩
    refine ⟨_, rfl, _, _, rfl, rfl, cat_len hline lit1 (by decide), _, rfl, _, _, rfl, rfl, cat_len hline lit2 (by decide), _, rfl, _, _, rfl, rfl, cat_len lit3 hline (by decide), (by show 5 ≤ sizeLine; decide), fun l1 n3 => ?_⟩
    have e3 := Ex.new n3 (o := .lst [.str (cutS L none (some pl) ++ G ++ cutS L (some pl) none), .str (cutS L none (some pl) ++ cutS L (some (pl + 1)) none), .str (L ++ Str.ofString "/1"), .str (L ++ Str.ofString "/0"), .str (Str.ofString "+" ++ L)])
    have g3 := upd_same (H := H2) (a := l1) (o := .lst [.str (cutS L none (some pl) ++ G ++ cutS L (some pl) none), .str (cutS L none (some pl) ++ cutS L (some (pl + 1)) none), .str (L ++ Str.ofString "/1"), .str (L ++ Str.ofString "/0"), .str (Str.ofString "+" ++ L)])
    generalize upd H2 l1 (.lst [.str (cutS L none (some pl) ++ G ++ cutS L (some pl) none), .str (cutS L none (some pl) ++ cutS L (some (pl + 1)) none), .str (L ++ Str.ofString "/1"), .str (L ++ Str.ofString "/0"), .str (Str.ofString "+" ++ L)]) = H3 at e3 g3 ⊢
    refine ⟨_, rfl, _, rfl, _, rfl, pl, rfl, L, rfl, hl, _, rfl, _, _, rfl, rfl, c1, _, rfl, _, rfl, _, _, rfl, rfl, _, rfl, L, rfl, hl, _, _, rfl, rfl, c4, ?_⟩
    refine ⟨_, rfl, _, _, rfl, rfl, cat_len lit4 hline (by decide), _, rfl, _, _, rfl, rfl, cat_len hline lit5 (by decide), _, rfl, _, _, rfl, rfl, cat_len lit6 hline (by decide), _, rfl, _, _, rfl, rfl, cat_len lit7 hline (by decide), _, rfl, _, _, rfl, rfl, cat_len lit8 hline (by decide), (by show 6 ≤ sizeLine; decide), fun l2 n4 => ?_⟩
    have e4 := Ex.new n4 (o := .lst [.str (cutS L none (some pl) ++ G ++ cutS L (some (pl + 1)) none), .str (Str.ofString " " ++ L), .str (L ++ Str.ofString "\n"), .str (Str.ofString "0" ++ L), .str (Str.ofString "-" ++ L), .str (Str.ofString "/" ++ L)])
    have g4 := upd_same (H := H3) (a := l2) (o := .lst [.str (cutS L none (some pl) ++ G ++ cutS L (some (pl + 1)) none), .str (Str.ofString " " ++ L), .str (L ++ Str.ofString "\n"), .str (Str.ofString "0" ++ L), .str (Str.ofString "-" ++ L), .str (Str.ofString "/" ++ L)])
    generalize upd H3 l2 (.lst [.str (cutS L none (some pl) ++ G ++ cutS L (some (pl + 1)) none), .str (Str.ofString " " ++ L), .str (L ++ Str.ofString "\n"), .str (Str.ofString "0" ++ L), .str (Str.ofString "-" ++ L), .str (Str.ofString "/" ++ L)]) = H4 at e4 g4 ⊢
    refine cat_ok (e4 _ _ g3) g4 (by show 11 ≤ sizeLine; decide) fun l3 H5 e5 n5 g5 => ?_
    have pp := ((RPair.kp (RPair.kp hp b0 k1) b1 k2).ex e3).ex (Ex.trans e4 e5)
    obtain ⟨xs, gx, lx, ox⟩ : ∃ xs, H5 l3 = some (.lst xs) ∧ xs.length = 11 ∧ ∀ v ∈ xs, StrOk v := by
      refine ⟨_, g5, rfl, ?_⟩
      simp only [List.cons_append, List.nil_append, List.forall_mem_cons]
      exact ⟨okS h2 (by decide), okS h3 (by decide), okS (hline.cat lit1) (by decide), okS (hline.cat lit2) (by decide), okS (lit3.cat hline) (by decide), okS h4 (by decide), okS (lit4.cat hline) (by decide), okS (hline.cat lit5) (by decide), okS (lit6.cat hline) (by decide), okS (lit7.cat hline) (by decide), okS (lit8.cat hline) (by decide), fun v hv => nomatch hv⟩
    have kk := ((k1.trans k2).trans e3.kp).trans ((Ex.trans e4 e5).kp)
    have bb := (b2.ex e3).ex (Ex.trans e4 e5)
    clear g5 g4 g3 n3 n4 n5
    have z1 : (2 * q.num).natAbs < 2 ^ 101 := by
      have := hz.1
      omega
    have z2 : (2 * (q.den : Int)).natAbs < 2 ^ 101 := by
      have := hz.2
      omega
    have t1 := int_sn z1
    have t2 := int_sn z2
    have lg1 : (2 * q.num).natAbs.log2 < 1920 := Nat.lt_trans (log_lt z1 (by decide)) (by decide)
    have lg2 : (2 * (q.den : Int)).natAbs.log2 < 1920 := Nat.lt_trans (log_lt z2 (by decide)) (by decide)
    have lit9 := SN.lit [49, 47] (show Str.ofString "1/" = _ by decide +kernel) (by decide)
    have lit10 := SN.lit [50, 47] (show Str.ofString "2/" = _ by decide +kernel) (by decide)
    have three : Str.ofString "3" = SX.S [51] := by decide +kernel
    have one : Str.ofString "1" = SX.S [49] := by decide +kernel
    have rep : ∀ (c n : Nat), c < 128 → SN n (SX.S (List.replicate n [c]).flatten) := fun c n hc => by
      refine ⟨_, rfl, ?_, fun x hx => ?_⟩
      · rw [List.length_flatten, List.map_replicate, List.sum_replicate_nat]
        simp
      · obtain ⟨l, hl, hx⟩ := List.mem_flatten.mp hx
        rw [(List.mem_replicate.mp hl).2] at hx
        rw [List.mem_singleton.mp hx]
        exact hc
    refine ⟨_, rfl, _, rfl, p, _, _, _, rfl, rfl, pp.sq, ix0, _, _, rfl, rfl, wide_mul (i := 2) (a := 2) (b := 100) (by decide) hz.1 (by decide) (by decide) (by decide), _, rfl, lg1, _, _, rfl, rfl, cat_len t1 lit8 (by decide), _, rfl, p, _, _, _, rfl, rfl, pp.sq, ix1, _, _, rfl, rfl, wide_mul (i := 2) (a := 2) (b := 100) (by decide) (by rw [Int.natAbs_natCast]; exact hz.2) (by decide) (by decide) (by decide), _, rfl, lg2, _, _, rfl, rfl, cat_len (t1.cat lit8) t2 (by decide), ?_⟩
    refine ⟨_, _, congrArg V.str three, rfl, by decide, by decide, by decide, _, _, rfl, rfl, cat_len lit9 (rep 51 98 (by decide)) (by decide), _, _, congrArg V.str one, rfl, by decide, by decide, by decide, _, _, congrArg V.str one, rfl, by decide, by decide, by decide, _, _, congrArg V.str three, rfl, by decide, by decide, by decide, _, _, rfl, rfl, cat_len lit10 (rep 51 99 (by decide)) (by decide), (by show 5 ≤ sizeLine; decide), fun l4 n6 => ?_⟩
    have e6 := Ex.new n6 (o := .lst [.str (Str.ofString (toString (2 * q.num)) ++ Str.ofString "/" ++ Str.ofString (toString (2 * (q.den : Int)))), .str (Str.ofString "1/" ++ SX.S (List.replicate (Int.toNat 98) [51]).flatten), .str (SX.S (List.replicate (Int.toNat 100) [49]).flatten), .str (SX.S (List.replicate (Int.toNat 101) [49]).flatten), .str (Str.ofString "2/" ++ SX.S (List.replicate (Int.toNat 99) [51]).flatten)])
    have g6 := upd_same (H := H5) (a := l4) (o := .lst [.str (Str.ofString (toString (2 * q.num)) ++ Str.ofString "/" ++ Str.ofString (toString (2 * (q.den : Int)))), .str (Str.ofString "1/" ++ SX.S (List.replicate (Int.toNat 98) [51]).flatten), .str (SX.S (List.replicate (Int.toNat 100) [49]).flatten), .str (SX.S (List.replicate (Int.toNat 101) [49]).flatten), .str (Str.ofString "2/" ++ SX.S (List.replicate (Int.toNat 99) [51]).flatten)])
    generalize upd H5 l4 (.lst [.str (Str.ofString (toString (2 * q.num)) ++ Str.ofString "/" ++ Str.ofString (toString (2 * (q.den : Int)))), .str (Str.ofString "1/" ++ SX.S (List.replicate (Int.toNat 98) [51]).flatten), .str (SX.S (List.replicate (Int.toNat 100) [49]).flatten), .str (SX.S (List.replicate (Int.toNat 101) [49]).flatten), .str (Str.ofString "2/" ++ SX.S (List.replicate (Int.toNat 99) [51]).flatten)]) = H6 at e6 g6 ⊢
    refine cat_ok (e6 _ _ gx) g6 (by rw [lx]; show 11 + 5 ≤ sizeLine; decide) fun l5 H7 e7 n7 g7 => ?_
    obtain ⟨ys, gy, ly, oy⟩ : ∃ ys, H7 l5 = some (.lst ys) ∧ ys.length = 16 ∧ ∀ v ∈ ys, StrOk v := by
      refine ⟨_, g7, by rw [List.length_append, lx]; rfl, List.forall_mem_append.mpr ⟨ox, ?_⟩⟩
      simp only [List.forall_mem_cons]
      exact ⟨okS ((t1.cat lit8).cat t2) (by decide), okS (lit9.cat (rep 51 98 (by decide))) (by decide), okS (rep 49 100 (by decide)) (by decide), okS (rep 49 101 (by decide)) (by decide), okS (lit10.cat (rep 51 99 (by decide))) (by decide), fun v hv => nomatch hv⟩
    clear g6 g7 n6 n7
    refine ⟨_, rfl, _, rfl, (by show 7 ≤ sizeLine; decide), fun l6 n8 => ?_⟩
    have e8 := Ex.new n8 (o := .lst [.str (Str.ofString "-0"), .str (Str.ofString ""), .str (Str.ofString "-0/5"), .str (Str.ofString "1/-2"), .str (Str.ofString "1/2/3"), .str (Str.ofString "0/3"), .str L])
    have g8 := upd_same (H := H7) (a := l6) (o := .lst [.str (Str.ofString "-0"), .str (Str.ofString ""), .str (Str.ofString "-0/5"), .str (Str.ofString "1/-2"), .str (Str.ofString "1/2/3"), .str (Str.ofString "0/3"), .str L])
    generalize upd H7 l6 (.lst [.str (Str.ofString "-0"), .str (Str.ofString ""), .str (Str.ofString "-0/5"), .str (Str.ofString "1/-2"), .str (Str.ofString "1/2/3"), .str (Str.ofString "0/3"), .str L]) = H8 at e8 g8 ⊢
    refine cat_ok (e8 _ _ gy) g8 (by rw [ly]; show 16 + 7 ≤ sizeLine; decide) fun l7 H9 e9 n9 g9 => ?_
    obtain ⟨zs, gz, lz, oz⟩ : ∃ zs, H9 l7 = some (.lst zs) ∧ zs.length = 23 ∧ ∀ v ∈ zs, StrOk v := by
      refine ⟨_, g9, by rw [List.length_append, ly]; rfl, List.forall_mem_append.mpr ⟨oy, ?_⟩⟩
      simp only [List.forall_mem_cons]
      exact ⟨okS (SN.lit [45, 48] (by decide +kernel) (by decide)) (by decide), okS (SN.lit [] (by decide +kernel) (by decide)) (by decide), okS (SN.lit [45, 48, 47, 53] (by decide +kernel) (by decide)) (by decide), okS (SN.lit [49, 47, 45, 50] (by decide +kernel) (by decide)) (by decide), okS (SN.lit [49, 47, 50, 47, 51] (by decide +kernel) (by decide)) (by decide), okS (SN.lit [48, 47, 51] (by decide +kernel) (by decide)) (by decide), okS hline (by decide), fun v hv => nomatch hv⟩
    have b8 := bb.ex (Ex.trans e6 (Ex.trans e7 e8))
    have hne := b8.free n9
    refine ⟨_, rfl, m, 23, n + 2, rfl, by decide, by decide, b8.ex e9, by omega, fun r H10 r0 r1 k10 b10 => ?_⟩
    obtain ⟨j, rfl⟩ : ∃ j : Nat, r = (j : Int) := ⟨r.toNat, by omega⟩
    have hj : j < zs.length := by omega
    exact ⟨l7, zs, (j : Int), zs[j], rfl, rfl, SqL.of (k10 _ _ gz hne), at_of rfl (List.getElem?_eq_getElem hj), k _ _ (oz _ (List.getElem_mem hj)) ((kk.trans (Ex.trans e6 (Ex.trans e7 (Ex.trans e8 e9))).kp).trans k10) b10⟩
/-! ## what is found by reading -/
abbrev s__law_found : Stmt := top 32
theorem sc__law_found : FnScope ["_law_line", "_law_told", "e"] ["_law_line"] (defScope s__law_found) := ⟨rfl, rfl, rfl, by decide +kernel, rfl, by decide +kernel, by decide +kernel⟩
/-- no text at all -/
def NoText (K : Fg) (H : Hp) (x : V) : Prop := ∃ t, TyX K H x t ∧ PySem.W.kitOne K t (.type "str") = some false
def spFound (K : Fg) (C : Addr) : Sp := fun vs H Q _ => ∃ x, vs = [x] ∧
  ((∃ cs : List Nat, x = .str (SX.S cs) ∧ cs.length ≤ 600 ∧ (∀ q, IsRat cs q → ∀ p H', Ex H H' → H p = none → H' p = some (.tup [.int q.num, .int q.den]) → Q (.ref p) H') ∧ ((¬ ∃ q, IsRat cs q) → ∀ p H', Ex H H' → H p = none → H' p = some (.tup [.str "text", x]) → Q (.ref p) H')) ∨
   (NoText K H x ∧ ∀ p H', Ex H H' → H p = none → H' p = some (.tup [.str "text", x]) → Q (.ref p) H'))
theorem ok_found {CT : Addr} (F : FnP K "_law_found" "_law_found" s__law_found [] f fd) (T : RatC K C) (cm_read : WC.CMthd P w K mg base 4 C "read" ["cls", "text"] (spRead K C CT)) (g_Ratio : mg "Ratio" = some (.ref C)) (v_InvalidText : ExcV P w K mg base "InvalidText" "value" CT)
    (p_top : Getter P w K mg base 1 C "top" (spTop C)) (p_bottom : Getter P w K mg base 1 C "bottom" (spBottom C)) (tt : PySem.W.exmOne K (.ref CT) (.ref CT) = some true) : FnX P w K mg base 5 f fd ["_law_line"] (spFound K C) := by
  refine F.ok sc__law_found (fun vs H Q E h => ?_) (fun cdv A outer s H vs Q E hr h => ?_)
  · obtain ⟨x, rfl, _⟩ := h
    rfl
  · obtain ⟨x, rfl, h⟩ := h
    refine ⟨_, (pss_cons (ps_try_mix rfl rfl sc__law_found.nd (takes_of rfl rfl rfl rfl) (fun W pn xe tk _ => (pss_one (ps_asg (WC.pe_clsM cm_read (pe_glob (v := .ref C) (by rfl) g_Ratio rfl) (hr.mono (by decide)) (passes_len (E := fun cl dd hh => ∀ σσ : L2.St, σσ.length = 3 → W cl dd σσ hh) tk fun _ _ _ _ l h => h _ l) (pa_cons (pv 0) pa_nil)) (pg_name (i := 1) sc__law_found.nd rfl (.inl rfl))))) (.named (i := 2) rfl rfl ⟨rfl, by decide, .inl v_InvalidText.g⟩ (fun a oe cls d pn hz hf => (pss_one (ps_ret (pe_tup (pa_cons pe_str (pa_cons (pe_xf v_InvalidText.xf v_InvalidText.no hz hf (pv 2)) pa_nil)))))) .nil))
      (pss_one (ps_ret (pe_tup (pa_cons (pe_getter p_top (hr.mono (by decide)) (pv 1)) (pa_cons (pe_getter p_bottom (hr.mono (by decide)) (pv 1)) pa_nil)))))), ?_⟩
    have lk : ∀ v : V, ([("value", v)] : List (Str × V)).lookup ("value" : Str) = some v := fun v => by simp [List.lookup]
    rcases h with ⟨cs, rfl, l6, k1, k2⟩ | ⟨⟨t, ty, hk⟩, k⟩
    · by_cases hq : ∃ q, IsRat cs q
      · obtain ⟨q, hq⟩ := hq
        refine ⟨rfl, _, rfl, _, rfl, .inl ⟨cs, rfl, l6, .inl ⟨q, hq, fun a H1 e1 ra => ?_⟩⟩⟩
        have ra' := ra
        obtain ⟨dx, ha⟩ := ra
        exact ⟨_, rfl, a, dx, _, rfl, ha, a, q, rfl, ra', _, rfl, a, dx, _, rfl, ha, a, q, rfl, ra', (by show 2 ≤ sizeLine; decide), fun p hp => k1 q hq p _ (Ex.trans e1 (Ex.new hp)) (Ex.free e1 hp) upd_same⟩
      · refine ⟨rfl, _, rfl, _, rfl, .inl ⟨cs, rfl, l6, .inr ⟨hq, fun d H' hd e2 hx σσ hl => ?_⟩⟩⟩
        exact ⟨true, tt, fun _ a ha => ⟨_, slot_at hl (by decide), rfl, rfl, d, _, _, rfl, hx, lk _, (by show 2 ≤ sizeLine; decide), fun q hq' => k2 hq q _ (Ex.trans e2 (Ex.new hq')) (Ex.free e2 hq') upd_same⟩, fun z => nomatch z⟩
    · refine ⟨rfl, _, rfl, x, rfl, .inr ⟨⟨t, ty, hk⟩, fun d H' hd e2 hx σσ hl => ?_⟩⟩
      exact ⟨true, tt, fun _ a ha => ⟨_, slot_at hl (by decide), rfl, rfl, d, _, _, rfl, hx, lk _, (by show 2 ≤ sizeLine; decide), fun q hq' => k q _ (Ex.trans e2 (Ex.new hq')) (Ex.free e2 hq') upd_same⟩, fun z => nomatch z⟩
/-! ## a refused list that grows -/
abbrev s__law_grown : Stmt := top 35
theorem sc__law_grown : FnScope ["_law_way", "_law_thing", "_law_found_here"] [] (defScope s__law_grown) := ⟨rfl, rfl, rfl, by decide +kernel, rfl, by decide +kernel, by decide +kernel⟩
theorem eqv_grown (a : Str) : PyData.eqv (.tuple [.str a, .list [.str "1", .none]]) (.tuple [.str a, .list [.str "1", .none]]) = true := by simp [PyData.eqv, PyData.eqvAll]
def spGrown : Sp := fun vs H Q _ => vs = [] ∧ ∀ H', Ex H H' → Q (.bl true) H'
theorem ok_grown (F : FnP K "_law_grown" "_law_grown" s__law_grown [] f fd) (O : RatO K C) (c__law_refused : Callee P w K mg base 8 "_law_refused" ["_law_way", "_law_one", "_law_other"] (spRefused K C)) (c__law_found : Callee P w K mg base 5 "_law_found" ["_law_line"] (spFound K C)) (m_range : mg "range" = none) :
    FnX P w K mg base 9 f fd [] spGrown := by
  refine F.ok sc__law_grown (fun vs H Q E h => ?_) (fun cdv A outer s H vs Q E hr h => ?_)
  · obtain ⟨rfl, _⟩ := h
    rfl
  · obtain ⟨rfl, k⟩ := h
    refine ⟨_, (pss_cons (ps_for (passes_of rfl) rfl (pi_range1 (by rfl) m_range (pa_cons pe_int pa_nil)) (pg_name (i := 0) sc__law_grown.nd rfl (.inl rfl)) (pss_cons (ps_asg (pe_lst (pa_cons pe_str pa_nil)) (pg_name (i := 1) sc__law_grown.nd rfl (.inl rfl)))
      (pss_cons (ps_asg (pe_callee c__law_refused (hr.mono (by decide)) (pa_cons (pv 0) (pa_cons (pv 1) (pa_cons pe_int pa_nil)))) (pg_name (i := 2) sc__law_grown.nd rfl (.inl rfl)))
      (pss_cons (ps_expr (pe_bm PySem.F.plainAttrs_list PySem.F.slot_list_append PySem.F.type_list_append mt_append (pv 1) (pa_cons pe_non pa_nil)))
      (pss_one (ps_if (pt_cmpR (op_neD hr.units) (pv 2) (pe_tup (pa_cons pe_str (pa_cons (pe_lst (pa_cons pe_str (pa_cons pe_non pa_nil))) pa_nil))) (nomark _)) (pss_one (ps_ret pe_bl)) pss_nil))))))
      (pss_cons (ps_asg (pe_lst (pa_cons pe_str pa_nil)) (pg_name (i := 1) sc__law_grown.nd rfl (.inl rfl)))
      (pss_cons (ps_asg (pe_callee c__law_found (hr.mono (by decide)) (pa_cons (pv 1) pa_nil)) (pg_name (i := 2) sc__law_grown.nd rfl (.inl rfl)))
      (pss_cons (ps_expr (pe_bm PySem.F.plainAttrs_list PySem.F.slot_list_append PySem.F.type_list_append mt_append (pv 1) (pa_cons pe_non pa_nil)))
      (pss_one (ps_ret (pe_cmpR (op_eqD hr.units) (pv 2) (pe_tup (pa_cons pe_str (pa_cons (pe_lst (pa_cons pe_str (pa_cons pe_non pa_nil))) pa_nil))) (nomark _)))))))), ?_⟩
    have odd1 : ∀ {G : Hp} {l : Addr} {xs : List V}, G l = some (.lst xs) → TyN K C G (.ref l) false false := fun h => Odd.tyn ⟨"list", by simp, .base (.lst h)⟩ O
    have bad : ∀ {G : Hp} {l : Addr}, G l = some (.lst [.str "1"]) → BadList K C G (.ref l) := fun h => bad1 (.inl (SqL.of h)) (Odd.tyn ⟨"str", by simp, .base (.str _)⟩ O)
    refine ⟨5, rfl, by decide, by decide, for_range (lo := 0) (fun i σ' H' => Ex H H' ∧ ∃ v1 v2 v3, σ' = [v1, v2, v3]) ⟨Ex.rfl, _, _, _, rfl⟩ ?_ ?_⟩
    · rintro i σ' H1 hi ⟨e1, v1, v2, v3, rfl⟩
      refine ⟨(by show 1 ≤ sizeLine; decide), fun l hl => ?_⟩
      have a2 : upd H1 l (.lst [.str "1"]) l = some (.lst [.str "1"]) := upd_same
      have e2 : Ex H1 (upd H1 l (.lst [.str "1"])) := Ex.new hl
      generalize hH2 : upd H1 l (.lst [.str "1"]) = H2 at a2 e2 ⊢
      have rr : Refused K C H2 (0 + (i : Int)) (.ref l) (.int 1) (.ref l) := by
        have hw : i = 0 ∨ i = 1 ∨ i = 2 ∨ i = 3 ∨ i = 4 := by
          have : i < 5 := hi
          omega
        rcases hw with rfl | rfl | rfl | rfl | rfl
        · exact .inl ⟨rfl, false, odd1 a2, rfl⟩
        · exact .inr (.inr (.inl ⟨rfl, odd1 a2, rfl⟩))
        · exact .inr (.inr (.inr (.inl ⟨rfl, bad a2, rfl⟩)))
        · exact .inr (.inr (.inr (.inr ⟨.inl rfl, .inl (bad a2), rfl⟩)))
        · exact .inr (.inr (.inr (.inr ⟨.inr rfl, .inl (bad a2), rfl⟩)))
      refine ⟨_, rfl, _, rfl, 0 + (i : Int), .ref l, .int 1, rfl, .inl ⟨.ref l, rr, fun p H3 e3 np gp => ?_⟩⟩
      have npl : p ≠ l := fun z => by rw [z, a2] at np; cases np
      have g3 : H3 l = some (.lst [.str "1"]) := e3 _ _ a2
      refine ⟨_, rfl, (Or.inl ⟨rfl, _, SqL.of g3⟩), l, [.str "1"], .non, rfl, rfl, g3, by decide +kernel, ?_⟩
      have e4 : Ex H1 (upd H3 l (.lst ([.str "1"] ++ [.non]))) := (Ex.trans e2 e3).mut hl
      have a4 : upd H3 l (.lst ([.str "1"] ++ [.non])) l = some (.lst [.str "1", .non]) := upd_same
      have p4 : upd H3 l (.lst ([.str "1"] ++ [.non])) p = some (.tup [.str "number", .ref l]) := by rw [upd_ne npl]; exact gp
      generalize upd H3 l (.lst ([.str "1"] ++ [.non])) = H4 at e4 a4 p4 ⊢
      refine ⟨_, rfl, (by show 2 ≤ sizeLine; decide), fun l2 hl2 => ⟨(by show 2 ≤ sizeLine; decide), fun q hq => ?_⟩⟩
      have e5 : Ex H4 (upd H4 l2 (.lst [.str "1", .non])) := Ex.new hl2
      have a5 : upd H4 l2 (.lst [.str "1", .non]) l2 = some (.lst [.str "1", .non]) := upd_same
      generalize upd H4 l2 (.lst [.str "1", .non]) = H5 at e5 a5 hq ⊢
      have e6 : Ex H5 (upd H5 q (.tup [.str "number", .ref l2])) := Ex.new hq
      refine ⟨_, _, .tup (SqT.of (e6 _ _ (e5 _ _ p4))) (.cons (.str _) (.cons (.lst (SqL.of (e6 _ _ (e5 _ _ a4))) (.cons (.str _) (.cons .non .nil))) .nil)), .tup (SqT.of upd_same) (.cons (.str _) (.cons (.lst (SqL.of (e6 _ _ a5)) (.cons (.str _) (.cons .non .nil))) .nil)), by decide +kernel, by decide +kernel, _, rfl, ?_⟩
      rw [eqv_grown]
      exact iteF ⟨Ex.trans e1 (Ex.trans e4 (Ex.trans e5 e6)), _, _, _, rfl⟩
    · rintro σ' H1 ⟨e1, v1, v2, v3, rfl⟩
      refine ⟨(by show 1 ≤ sizeLine; decide), fun l hl => ?_⟩
      have a2 : upd H1 l (.lst [.str "1"]) l = some (.lst [.str "1"]) := upd_same
      have e2 : Ex H1 (upd H1 l (.lst [.str "1"])) := Ex.new hl
      generalize hH2 : upd H1 l (.lst [.str "1"]) = H2 at a2 e2 ⊢
      refine ⟨_, rfl, .ref l, rfl, .inr ⟨⟨.type "list", .base (.lst a2), kit_ty (by decide +kernel)⟩, fun p H3 e3 np gp => ?_⟩⟩
      have npl : p ≠ l := fun z => by rw [z, a2] at np; cases np
      have g3 : H3 l = some (.lst [.str "1"]) := e3 _ _ a2
      refine ⟨_, rfl, (Or.inl ⟨rfl, _, SqL.of g3⟩), l, [.str "1"], .non, rfl, rfl, g3, by decide +kernel, ?_⟩
      have e4 : Ex H1 (upd H3 l (.lst ([.str "1"] ++ [.non]))) := (Ex.trans e2 e3).mut hl
      have a4 : upd H3 l (.lst ([.str "1"] ++ [.non])) l = some (.lst [.str "1", .non]) := upd_same
      have p4 : upd H3 l (.lst ([.str "1"] ++ [.non])) p = some (.tup [.str "text", .ref l]) := by rw [upd_ne npl]; exact gp
      generalize upd H3 l (.lst ([.str "1"] ++ [.non])) = H4 at e4 a4 p4 ⊢
      refine ⟨_, rfl, (by show 2 ≤ sizeLine; decide), fun l2 hl2 => ⟨(by show 2 ≤ sizeLine; decide), fun q hq => ?_⟩⟩
      have e5 : Ex H4 (upd H4 l2 (.lst [.str "1", .non])) := Ex.new hl2
      have a5 : upd H4 l2 (.lst [.str "1", .non]) l2 = some (.lst [.str "1", .non]) := upd_same
      generalize upd H4 l2 (.lst [.str "1", .non]) = H5 at e5 a5 hq ⊢
      have e6 : Ex H5 (upd H5 q (.tup [.str "text", .ref l2])) := Ex.new hq
      refine ⟨_, _, .tup (SqT.of (e6 _ _ (e5 _ _ p4))) (.cons (.str _) (.cons (.lst (SqL.of (e6 _ _ (e5 _ _ a4))) (.cons (.str _) (.cons .non .nil))) .nil)), .tup (SqT.of upd_same) (.cons (.str _) (.cons (.lst (SqL.of (e6 _ _ a5)) (.cons (.str _) (.cons .non .nil))) .nil)), by decide +kernel, by decide +kernel, ?_⟩
      rw [eqv_grown]
      exact k _ (Ex.trans e1 (Ex.trans e4 (Ex.trans e5 e6)))
theorem pairD {H : Hp} {p : Addr} {q : Rat} (r : RPair H p q) : Dp K H (.ref p) (.tuple [.int q.num, .int q.den]) := .tup (SqT.of r) (.cons (.int _) (.cons (.int _) .nil))
theorem pairEqv (q r : Rat) : PyData.eqv (.tuple [.int q.num, .int q.den]) (.tuple [.int r.num, .int r.den]) = decide (q = r) := by
  have e : PyData.eqv (.tuple [.int q.num, .int q.den]) (.tuple [.int r.num, .int r.den]) = (q.num == r.num && ((q.den : Int) == (r.den : Int))) := by simp [PyData.eqv, PyData.eqvAll]
  rw [e]
  by_cases h : q = r
  · subst h
    simp
  · rw [decide_eq_false h, Bool.and_eq_false_iff]
    by_cases h1 : q.num = r.num
    · exact .inr (beq_eq_false_iff_ne.mpr fun z => h (Rat.ext h1 (by omega)))
    · exact .inl (beq_eq_false_iff_ne.mpr h1)
theorem ne_pair {H : Hp} {p p2 : Addr} {q r : Rat} {Q : VK} (h : RPair H p q) (g : RPair H p2 r) (k : Q (.bl (!decide (q = r))) H) : rNeD K (.ref p) (.ref p2) H Q := ⟨_, _, pairD h, pairD g, rfl, rfl, by rw [pairEqv]; exact k⟩
theorem eq_pair {H : Hp} {p p2 : Addr} {q r : Rat} {Q : VK} (h : RPair H p q) (g : RPair H p2 r) (k : Q (.bl (decide (q = r))) H) : rEqD K (.ref p) (.ref p2) H Q := ⟨_, _, pairD h, pairD g, rfl, rfl, by rw [pairEqv]; exact k⟩
theorem use_ne {H : Hp} {a : Addr} {y : V} {q r : Rat} {Q : VK} (O : RatO K C) (ra : RatAt C H a q) (hn : NumAt C H y r) (k : Q (.bl (!decide (q = r))) H) : rOwnNe K C (spEqR K C) (.ref a) y H Q := ⟨RatAt.is ra, NumAt.right O.si hn, a, y, q, rfl, ra, .inl ⟨r, hn, _, rfl, k⟩⟩
theorem Kp.grow {m : Addr} {H0 H H' : Hp} (e : Ex H0 H) (k : Kp m H H') (h : H0 m = none) : Ex H0 H' := fun a o x => k a o (e a o x) (ne_of_none x h)
theorem rat_self (q : Rat) : Rat.divInt q.num q.den = q := Rat.num_divInt_den q
/-! ## the law -/
theorem rat_len {q : Rat} (z : Sz 100 q) : (WT.ratL q).length ≤ 64 := by
  obtain ⟨cs, e, l, _⟩ := rat_sn z
  rw [SX.S_inj e]
  exact l
theorem low_lay : ∀ {cs : List Nat}, (∀ c ∈ cs, c < 128) → Array.all (SX.S cs).cps (· < 0x110000) = true := fun {cs} h => by
  simp only [SX.S, List.all_toArray, List.all_eq_true, decide_eq_true_eq]
  intro c hc
  have := h c hc
  omega
theorem prs_text {H : Hp} {x : V} (t : Thing x) : Prs WB.DThing [.str "text", x] [.str "text", x] H := .cons (.inl ⟨rfl, rfl, by simp [eqV]⟩) (.cons (t H) .nil)
theorem all_dig {cs : List Nat} (h : cs.all (fun c => decide (48 ≤ c) && decide (c ≤ 57)) = true) : NumText.AllDigits cs := fun c hc => by simpa using List.all_eq_true.mp h c hc
/-- behind j laps -/
def LapP (l m : Addr) (H1 : Hp) (j : Nat) (σ : L2.St) (H : Hp) : Prop := Ex H1 H ∧ BagAt H m (9 * j) ∧ ∃ v1 v3 v4 v5 v6 v7 v8, σ = [some (.ref l), v1, some (.ref m), v3, v4, v5, v6, v7, v8]
abbrev s_law : Stmt := top 36
theorem sc_law : FnScope ["_law_script", "_law_index", "_law_bag_here", "_law_lap", "_law_x", "_law_line", "_law_other", "_law_due", "_law_odd"] ["_law_script"] (defScope s_law) := ⟨rfl, rfl, rfl, by decide +kernel, rfl, by decide +kernel, by decide +kernel⟩
def spLaw (K : Fg) : Sp := fun vs H Q _ => ∃ (l : Addr) (ns : List Int), vs = [.ref l] ∧ SqL K H l (ns.map V.int) ∧ ns.length ≤ 100000 ∧ ∀ H', Q (.bl true) H'
structure LawH (P : Program) (w : World) (K : Fg) (mg : Str → Option Value) (base : Heap) (C CZ CT : Addr) : Prop where
  cell : Callee P w K mg base 1 "_law_cell" ["_law_script", "_law_index"] (spCell K)
  bag : Callee P w K mg base 1 "_law_bag" ["_law_cell_here"] spBag
  take : Callee P w K mg base 1 "_law_take" ["_law_bag_here", "_law_many"] spTake
  drawn : Callee P w K mg base 2 "_law_drawn" ["_law_bag_here"] spLDrawn
  text_ : Callee P w K mg base 1 "_law_text" ["_law_x"] spLText
  found : Callee P w K mg base 5 "_law_found" ["_law_line"] (spFound K C)
  spoilt : Callee P w K mg base 2 "_law_spoilt" ["_law_bag_here", "_law_x"] spLSpoilt
  read : Callee P w K mg base 3 "_law_read" ["_law_line"] spLRead
  odd : Callee P w K mg base 9 "_law_odd_right" ["_law_bag_here"] spOdd
  grown : Callee P w K mg base 9 "_law_grown" [] spGrown
  k2 : Maker P w K mg base 2 "Ratio" C ["self", "top", "bottom"] [] (spRInit C CZ)
  mtext : Mthd P w K mg base 1 C "text" ["self"] (spText C)
  readK : WC.CMthdK P w K mg base 4 C "read" ["cls", "text"] ["text"] (fun vs zs => vs ++ zs) (spRead K C CT)
  eq : EqOk P w K mg base 3 C (spEqR K C)
theorem ok_law {CT : Addr} (F : FnP K "law" "law" s_law [] f fd) (T : RatC K C) (O : RatO K C) (h : LawH P w K mg base C CZ CT) (g_Ratio : mg "Ratio" = some (.ref C)) (m_range : mg "range" = none) (m_max : mg "max" = none) (m_min : mg "min" = none) (m_len : mg "len" = none) (m_int : mg "int" = none) (hs : PySem.W.kitOne K (.ref C) (.type "str") = some false) : FnX P w K mg base 12 f fd ["_law_script"] (spLaw K) := by
  refine F.ok sc_law (fun vs H Q E h => ?_) (fun cdv A outer s H vs Q E hr hh => ?_)
  · obtain ⟨l, ns, rfl, _⟩ := h
    rfl
  · obtain ⟨l, ns, rfl, hl, hn, k⟩ := hh
    have c__law_cell := h.cell
    have c__law_bag := h.bag
    have c__law_take := h.take
    have c__law_drawn := h.drawn
    have c__law_text := h.text_
    have c__law_found := h.found
    have c__law_spoilt := h.spoilt
    have c__law_read := h.read
    have c__law_odd_right := h.odd
    have c__law_grown := h.grown
    have k_Ratio2 := h.k2
    have cmk_read := h.readK
    have e_eq := h.eq
    obtain ⟨f_text, fd_text, cl_text, me_text, b_text, F_text⟩ := h.mtext.ex
    refine ⟨_, (pss_cons (ps_for (passes_of rfl) rfl (pi_range1 (by rfl) m_range (pa_cons (pe_callB (call_max2 rfl) (by rfl) m_max (by decide +kernel) (pa_cons pe_int (pa_cons (pe_callB (call_min2 rfl) (by rfl) m_min (by decide +kernel) (pa_cons pe_int (pa_cons (pe_callB call_len (by rfl) m_len (by decide +kernel) (pa_cons (pv 0) pa_nil)) pa_nil))) pa_nil))) pa_nil)) (pg_name (i := 1) sc_law.nd rfl (.inl rfl)) (pss_cons (ps_asg (pe_callee c__law_bag (hr.mono (by decide)) (pa_cons (pe_callee c__law_cell (hr.mono (by decide)) (pa_cons (pv 0) (pa_cons (pv 1) pa_nil))) pa_nil)) (pg_name (i := 2) sc_law.nd rfl (.inl rfl)))
      (pss_cons (ps_for (passes_of rfl) rfl (pi_range1 (by rfl) m_range (pa_cons pe_int pa_nil)) (pg_name (i := 3) sc_law.nd rfl (.inl rfl)) (pss_cons (ps_asg (pe_callee c__law_drawn (hr.mono (by decide)) (pa_cons (pv 2) pa_nil)) (pg_name (i := 4) sc_law.nd rfl (.inl rfl)))
      (pss_cons (ps_asg (pe_meth0 (pe_maker k_Ratio2 (hr.mono (by decide)) passL (pa_cons (pe_ix ix_tup (pv 4) pe_int (fun _ _ => rfl)) (pa_cons (pe_ix ix_tup (pv 4) pe_int (fun _ _ => rfl)) pa_nil))) cl_text me_text F_text (hr.mono (by decide)) b_text .nil passL) (pg_name (i := 5) sc_law.nd rfl (.inl rfl)))
      (pss_cons (ps_if (PW.pt (pw_or (pt_cmpR op_ne (pv 5) (pe_callee c__law_text (hr.mono (by decide)) (pa_cons (pv 4) pa_nil)) (nomark _)) (pw_or1 (pt_cmpR (op_neD hr.units) (pe_callee c__law_found (hr.mono (by decide)) (pa_cons (pv 5) pa_nil)) (pv 4) (nomark _))))) (pss_one (ps_ret pe_bl)) pss_nil)
      (pss_cons (ps_asg (pe_callee c__law_spoilt (hr.mono (by decide)) (pa_cons (pv 2) (pa_cons (pv 4) pa_nil))) (pg_name (i := 6) sc_law.nd rfl (.inl rfl)))
      (pss_cons (ps_asg (pe_callee c__law_read (hr.mono (by decide)) (pa_cons (pv 6) pa_nil)) (pg_name (i := 7) sc_law.nd rfl (.inl rfl)))
      (pss_one (ps_if (pt_cmpR (op_neD hr.units) (pe_callee c__law_found (hr.mono (by decide)) (pa_cons (pv 6) pa_nil)) (pe_ifExp (pt_cmpR op_notN (pv 7) pe_non (nomark _)) (pv 7) (pe_tup (pa_cons pe_str (pa_cons (pv 6) pa_nil)))) (nomark _)) (pss_one (ps_ret pe_bl)) pss_nil))))))))
      (pss_cons (ps_asg (pe_ix ix_list (pe_lst (pa_cons pe_non (pa_cons pe_int (pa_cons (pe_maker k_Ratio2 (hr.mono (by decide)) passL (pa_cons pe_int (pa_cons pe_int pa_nil))) (pa_cons (pe_lst (pa_cons pe_str pa_nil)) (pa_cons (pe_tup (pa_cons pe_str pa_nil)) (pa_cons pe_dnewK (pa_cons pe_bl pa_nil)))))))) (pe_callee c__law_take (hr.mono (by decide)) (pa_cons (pv 2) (pa_cons pe_int pa_nil))) (fun _ _ => rfl)) (pg_name (i := 8) sc_law.nd rfl (.inl rfl)))
      (pss_one (ps_if (PW.pt (pw_or (pt_cmpR (op_neThingsT (hr.mono (by decide))) (pe_callee c__law_found (hr.mono (by decide)) (pa_cons (pv 8) pa_nil)) (pe_tup (pa_cons pe_str (pa_cons (pv 8) pa_nil))) (nomark _)) (pw_or1 (pt_not (pt_val (pe_callee c__law_odd_right (hr.mono (by decide)) (pa_cons (pv 2) pa_nil))))))) (pss_one (ps_ret pe_bl)) pss_nil))))))
      (pss_cons (ps_if (PW.pt (pw_or (pt_not (pt_val (WC.pe_callee0 c__law_grown (hr.mono (by decide))))) (pw_or1 (pt_cmpR (op_ownNe e_eq (hr.mono (by decide))) (WC.pe_clsMK cmk_read (pe_glob (v := .ref C) (by rfl) g_Ratio rfl) (hr.mono (by decide)) passL (pk_cons pe_str pk_nil)) (pe_maker k_Ratio2 (hr.mono (by decide)) passL (pa_cons (pe_un un_neg pe_int) (pa_cons pe_int pa_nil))) (nomark _))))) (pss_one (ps_ret pe_bl)) pss_nil)
      (pss_one (ps_ret (pe_and (pe_cmpR (op_eqD hr.units) (pe_callee c__law_found (hr.mono (by decide)) (pa_cons (pe_op op_add_str pe_str (pe_op op_rep_str pe_str pe_int)) pa_nil)) (pe_tup (pa_cons pe_int (pa_cons (pe_callTy call_int_str (by rfl) m_int (by decide +kernel) (pa_cons (pe_op op_rep_str pe_str pe_int) pa_nil)) pa_nil))) (nomark _)) (pe_one (pe_cmpR (op_eqD hr.units) (pe_callee c__law_found (hr.mono (by decide)) (pa_cons pe_str pa_nil)) (pe_tup (pa_cons pe_str (pa_cons pe_str pa_nil))) (nomark _)))))))), ?_⟩
    refine ⟨_, rfl, .ref l, _, rfl, .inl ⟨_, hl, rfl⟩, _, _, rfl, _, _, rfl, _, rfl, by split <;> split <;> omega, by split <;> split <;> omega, for_range (lo := 0) (fun i σ H' => Ex H H' ∧ ∃ v1 v2 v3 v4 v5 v6 v7 v8, σ = [some (.ref l), v1, v2, v3, v4, v5, v6, v7, v8]) ⟨Ex.rfl, none, none, none, none, none, none, none, none, rfl⟩ (fun i σ H1 hi p => ?_) fun σ H1 p => ?_⟩
    · obtain ⟨e1, v1, v2, v3, v4, v5, v6, v7, v8, eσ⟩ := p
      subst eσ
      have hi10 : i < 100 := by
        refine Nat.lt_of_lt_of_le hi ?_
        split <;> split <;> omega
      clear hi
      refine ⟨_, rfl, _, rfl, l, 0 + i, ns, rfl, SqL.ex hl e1, by omega, by omega, hn, fun c => ⟨c, rfl, fun m H2 hm e2 b2 => ?_⟩⟩
      refine ⟨4, rfl, by decide, by decide, for_range (lo := 0) (LapP l m H1) ⟨e2, b2, _, _, _, _, _, _, _, rfl⟩ (fun j σ H5 hj p => ?_) fun σ H5 p => ?_⟩
      · obtain ⟨e5, b5, v1, v3, v4, v5, v6, v7, v8, eσ⟩ := p
        subst eσ
        have hj4 : j < 4 := by omega
        refine ⟨_, rfl, m, 9 * j, rfl, b5, by omega, fun p q H6 zq rp k6 b6 => ?_⟩
        have e6 := Kp.grow e5 k6 hm
        refine ⟨_, rfl, p, _, _, _, rfl, rfl, rp.sq, ix0, _, rfl, p, _, _, _, rfl, rfl, rp.sq, ix1, fun a da ha hda _ => ⟨a, da, q.num, (q.den : Int), rfl, upd_same, .inl ⟨by have := den_pos q; omega, Nat.lt_of_lt_of_le (sz_den zq) (Nat.pow_le_pow_right (by decide) (by decide)), rfl, ?_⟩⟩⟩
        rw [upd_upd]
        obtain ⟨e7, ra⟩ := rat_new (C := C) ha hda (Rat.divInt q.num (q.den : Int))
        rw [rat_self] at ra e7
        rw [rat_self]
        generalize upd (upd H6 da (.own a)) a (.ins C da (ratF q)) = H7 at e7 ra ⊢
        have rp7 := rp.ex e7
        have l64 := rat_len zq
        have ra' := ra
        obtain ⟨dx, hx⟩ := ra
        refine ⟨a, dx, _, rfl, hx, rfl, a, q, rfl, ra', zq.mono (by decide), ?_⟩
        refine ⟨_, rfl, _, rfl, p, q, rfl, rp7, zq.mono (by decide), rfl, _, rfl, iteNS rfl ?_⟩
        have isq : IsRat (WT.ratL q) q := ⟨rfl, by omega⟩
        refine ⟨_, rfl, .str (SX.S (WT.ratL q)), rfl, .inl ⟨WT.ratL q, rfl, by omega, fun q' hq' p2 H8 e8 _ g8 => ?_, fun no => absurd ⟨q, isq⟩ no⟩⟩
        cases WT.ratL_inj hq'.1
        have k8 := (k6.trans e7.kp).trans e8.kp
        have b8 := (b6.ex e7).ex e8
        have rp8 := rp7.ex e8
        refine ⟨_, rfl, ne_pair g8 rp8 ⟨_, rfl, iteNS rfl ?_⟩⟩
        have e8' := Kp.grow e5 k8 hm
        clear e6 k6 b6 rp rp7 e7 e8 hx ra' g8
        refine ⟨_, rfl, _, rfl, m, 9 * j + 6, p, q, rfl, b8, by omega, rp8, zq, fun v H9 ov k9 b9 => ?_⟩
        obtain ⟨z, rfl, cs, rfl, l6, low⟩ := ov
        have e9 := Kp.grow e8' k9 hm
        refine ⟨_, rfl, cs, rfl, l6, low, fun q2 hq2 p2 H10 e10 g10 => ?_, fun no H10 e10 => ?_⟩
        · refine ⟨_, rfl, .str (SX.S cs), rfl, .inl ⟨cs, rfl, l6, fun q3 hq3 p3 H11 e11 _ g11 => ?_, fun no => absurd ⟨q2, hq2⟩ no⟩⟩
          cases WT.ratL_inj (hq2.1.symm.trans hq3.1)
          refine ⟨_, rfl, rfl, _, rfl, ?_⟩
          rw [show (!decide (V.ref p2 = V.non)) = true by rw [decide_eq_false (fun z => nomatch z)]; rfl]
          refine iteT ⟨_, rfl, ne_pair g11 (e11 _ _ g10) ⟨_, rfl, iteNS rfl ?_⟩⟩
          exact ⟨Ex.trans e9 (Ex.trans e10 e11), ((b9.ex e10).ex e11).mono (by omega), _, _, _, _, _, _, _, rfl⟩
        · refine ⟨_, rfl, .str (SX.S cs), rfl, .inl ⟨cs, rfl, l6, fun q3 hq3 => absurd ⟨q3, hq3⟩ no, fun _ p3 H11 e11 _ g11 => ?_⟩⟩
          refine ⟨_, rfl, rfl, _, rfl, ?_⟩
          rw [show (!decide (V.non = V.non)) = false by rw [decide_eq_true rfl]; rfl]
          refine iteF ⟨_, rfl, (by show 2 ≤ sizeLine; decide), fun p4 hp4 => ?_⟩
          have e12 : Ex H11 (upd H11 p4 (.tup [.str "text", .str (SX.S cs)])) := Ex.new hp4
          have lay : (PyData.tuple [.str "text", .str (SX.S cs)]).canLay0 = true := by
            simp only [PyData.canLay0, PyData.canLayAll0, Bool.and_true, Bool.and_eq_true]
            exact ⟨by decide +kernel, low_lay low⟩
          have shp : SeqAt.shaped (PyData.tuple [.str "text", .str (SX.S cs)]) = true := by
            rw [SeqAt.shaped, lay]
            simp [PyData.depth, PyData.depthAll]
          refine ⟨_, _, .tup (SqT.of (e12 _ _ g11)) (.cons (.str _) (.cons (.str _) .nil)), .tup (SqT.of upd_same) (.cons (.str _) (.cons (.str _) .nil)), shp, shp, _, rfl, ?_⟩
          rw [show PyData.eqv (.tuple [.str "text", .str (SX.S cs)]) (.tuple [.str "text", .str (SX.S cs)]) = true by simp [PyData.eqv, PyData.eqvAll]]
          exact iteF ⟨Ex.trans e9 (Ex.trans e10 (Ex.trans e11 e12)), (((b9.ex e10).ex e11).ex e12).mono (by omega), _, _, _, _, _, _, _, rfl⟩
      · obtain ⟨e5, b5, v1, v3, v4, v5, v6, v7, v8, eσ⟩ := p
        subst eσ
        refine fun a da ha hda _ => ⟨a, da, 1, 2, rfl, upd_same, .inl ⟨by decide, Nat.lt_of_lt_of_le (by decide : (2 : Int).natAbs < 2 ^ 4) (Nat.pow_le_pow_right (by decide) (by decide)), rfl, ?_⟩⟩
        rw [upd_upd]
        obtain ⟨x1, ra⟩ := rat_new (C := C) ha hda (Rat.divInt 1 2)
        generalize upd (upd H5 da (.own a)) a (.ins C da (ratF (Rat.divInt 1 2))) = G1 at x1 ra ⊢
        clear ha hda
        refine ⟨(by show 1 ≤ sizeLine; decide), fun l1 hl1 => ⟨(by show 1 ≤ sizeLine; decide), fun t1 ht1 p1 hp1 => ⟨(by show 7 ≤ sizeLine; decide), fun L hL => ?_⟩⟩⟩
        have x2 : Ex G1 (upd G1 l1 (.lst [.str "1"])) := Ex.new hl1
        have a2 : upd G1 l1 (.lst [.str "1"]) l1 = some (.lst [.str "1"]) := upd_same
        generalize upd G1 l1 (.lst [.str "1"]) = G2 at x2 a2 ht1 hp1 hL ⊢
        have x3 : Ex G2 (upd G2 t1 (.tup [.str "1"])) := Ex.new ht1
        have a3 : upd G2 t1 (.tup [.str "1"]) t1 = some (.tup [.str "1"]) := upd_same
        generalize upd G2 t1 (.tup [.str "1"]) = G3 at x3 a3 hp1 hL ⊢
        have x4 : Ex G3 (upd G3 p1 (.dK [])) := Ex.new hp1
        have a4 : upd G3 p1 (.dK []) p1 = some (.dK []) := upd_same
        generalize upd G3 p1 (.dK []) = G4 at x4 a4 hL ⊢
        have x5 : Ex G4 (upd G4 L (.lst [.non, .int 5, .ref a, .ref l1, .ref t1, .ref p1, .bl true])) := Ex.new hL
        have a5 : upd G4 L (.lst [.non, .int 5, .ref a, .ref l1, .ref t1, .ref p1, .bl true]) L = some (.lst [.non, .int 5, .ref a, .ref l1, .ref t1, .ref p1, .bl true]) := upd_same
        have xx := ((x1.trans x2).trans x3).trans x4
        have lm := (b5.ex xx).free hL
        have n1 := (b5.ex x1).free hl1
        generalize upd G4 L (.lst [.non, .int 5, .ref a, .ref l1, .ref t1, .ref p1, .bl true]) = G5 at x5 a5 ⊢
        have bb := (b5.ex xx).ex x5
        refine ⟨_, rfl, m, 7, 9 * 4, rfl, by decide, by decide, bb, by decide, fun r G6 r0 r1 k6 b6 => ?_⟩
        have c2 := k6 _ _ (((x3.trans x4).trans x5) _ _ a2) n1
        have c3 := k6 _ _ ((x4.trans x5) _ _ a3) (bb.ne ((x4.trans x5) _ _ a3) fun x z => by cases z)
        have c4 := k6 _ _ (x5 _ _ a4) (bb.ne (x5 _ _ a4) fun x z => by cases z)
        have c5 := k6 _ _ a5 lm
        have cr := (ra.ex (((x2.trans x3).trans x4).trans x5)).kp bb k6
        have e6 := Kp.grow (Ex.trans e5 (Ex.trans xx x5)) k6 hm
        clear x1 x2 x3 x4 x5 xx a2 a3 a4 a5 ra hl1 ht1 hp1 hL k6 bb b5 e5
        have od : ∃ v, atI ([.non, .int 5, .ref a, .ref l1, .ref t1, .ref p1, .bl true] : List V) r = some v ∧ NoText K G6 v ∧ Thing v := by
          have hw : r = 0 ∨ r = 1 ∨ r = 2 ∨ r = 3 ∨ r = 4 ∨ r = 5 ∨ r = 6 := by omega
          rcases hw with rfl | rfl | rfl | rfl | rfl | rfl | rfl
          · exact ⟨_, at_of (j := 0) rfl rfl, ⟨_, .base .non, kit_ty (by decide +kernel)⟩, thing_flat rfl rfl⟩
          · exact ⟨_, at_of (j := 1) rfl rfl, ⟨_, .base (.int _), kit_ty (by decide +kernel)⟩, thing_flat rfl rfl⟩
          · exact ⟨_, at_of (j := 2) rfl rfl, ⟨_, T.ty cr, hs⟩, thing_ref⟩
          · exact ⟨_, at_of (j := 3) rfl rfl, ⟨_, .base (.lst c2), kit_ty (by decide +kernel)⟩, thing_ref⟩
          · exact ⟨_, at_of (j := 4) rfl rfl, ⟨_, .base (.tup c3), kit_ty (by decide +kernel)⟩, thing_ref⟩
          · exact ⟨_, at_of (j := 5) rfl rfl, ⟨_, .base (.dK c4), kit_ty (by decide +kernel)⟩, thing_ref⟩
          · exact ⟨_, at_of (j := 6) rfl rfl, ⟨_, .base (.bl _), kit_ty (by decide +kernel)⟩, thing_flat rfl rfl⟩
        obtain ⟨v, ev, nt, th⟩ := od
        refine ⟨L, _, _, _, rfl, rfl, SqL.of c5, ev, ?_⟩
        refine ⟨_, rfl, v, rfl, .inr ⟨nt, fun p H7 e7 _ g7 => ⟨_, rfl, (by show 2 ≤ sizeLine; decide), fun q hq => ?_⟩⟩⟩
        refine ⟨⟨p, q, _, _, rfl, rfl, SqT.of (Ex.new hq _ _ g7), SqT.of upd_same, prs_text th⟩, fun H8 e8 => ⟨_, rfl, iteF ?_⟩⟩
        have e78 : Ex G6 H8 := Ex.trans e7 (Ex.trans (Ex.new hq) e8)
        exact ⟨_, rfl, m, 9 * 4 + 1, rfl, b6.ex e78, by decide, fun H9 k9 b9 => ⟨_, rfl, iteF ⟨Ex.trans e1 (Kp.grow (Ex.trans e6 e78) k9 hm), _, _, _, _, _, _, _, _, rfl⟩⟩⟩
    · obtain ⟨e1, v1, v2, v3, v4, v5, v6, v7, v8, eσ⟩ := p
      subst eσ
      refine ⟨rfl, fun H2 e2 => ⟨_, rfl, iteF ?_⟩⟩
      have t1 : Str.ofString "-7/3" = SX.S [45, 55, 47, 51] := by decide +kernel
      have r1 : IsRat [45, 55, 47, 51] (⟨-7, 3, by decide, by decide⟩ : Rat) := ⟨by decide +kernel, by decide⟩
      refine ⟨rfl, rfl, .str (SX.S [45, 55, 47, 51]), by rw [← t1]; rfl, .inl ⟨_, rfl, by decide, .inl ⟨_, r1, fun a H3 e3 ra => ?_⟩⟩⟩
      refine ⟨_, rfl, fun a2 da ha hda _ => ⟨a2, da, -7, 3, rfl, upd_same, .inl ⟨by decide, Nat.lt_of_lt_of_le (by decide : (3 : Int).natAbs < 2 ^ 4) (Nat.pow_le_pow_right (by decide) (by decide)), rfl, ?_⟩⟩⟩
      rw [upd_upd]
      obtain ⟨e4, ra2⟩ := rat_new (C := C) ha hda (Rat.divInt (-7) 3)
      generalize upd (upd H3 da (.own a2)) a2 (.ins C da (ratF (Rat.divInt (-7) 3))) = H4 at e4 ra2 ⊢
      clear ha hda
      have er : (⟨-7, 3, by decide, by decide⟩ : Rat) = Rat.divInt (-7) 3 := by decide +kernel
      refine use_ne O (ra.ex e4) ra2.num ⟨_, rfl, iteNS er ?_⟩
      have b98 : WT.Canon (List.replicate (98 : Int).toNat [51]).flatten := ⟨all_dig (by decide +kernel), by decide +kernel, by decide +kernel⟩
      have three : Str.ofString "3" = SX.S [51] := by decide +kernel
      have lit1 : Str.ofString "1/" = SX.S [49, 47] := by decide +kernel
      have hb := WT.canon_dv b98
      have ib : intText? (SX.S (List.replicate (98 : Int).toNat [51]).flatten) = some ((WT.dv (List.replicate (98 : Int).toNat [51]).flatten : Nat) : Int) := PySem.intText_digits (x := SX.S _) b98.1 b98.2.1 (by rw [SX.S_len]; decide +kernel)
      have lb : (List.replicate (98 : Int).toNat [51]).flatten.length = 98 := by decide +kernel
      have v1 : WT.dv (List.replicate (98 : Int).toNat [51]).flatten ≠ 1 ∧ WT.dv (List.replicate (98 : Int).toNat [51]).flatten ≠ 0 := by decide +kernel
      refine ⟨_, _, congrArg V.str three, rfl, by decide, by decide, by decide, ?_⟩
      generalize hB : (List.replicate (98 : Int).toNat [51]).flatten = B at b98 hb ib lb v1 ⊢
      generalize hN : WT.dv B = N at hb ib v1
      have lcs : ([49] ++ 47 :: B).length = 100 := by show B.length + 1 + 1 = 100; rw [lb]
      have is1 : ∀ q, IsRat ([49] ++ 47 :: B) q ↔ q.num = 1 ∧ q.den = N := fun q => by
        have two := WT.ratL_two (a := [49]) (b := B) (by decide) q
        constructor
        · rintro ⟨h, _⟩
          obtain ⟨x, y, _⟩ := two.mp h
          refine ⟨(WT.intL_inj (show WT.intL 1 = WT.intL q.num by rw [← x]; decide +kernel)).symm, ?_⟩
          rw [← hN, y]
          exact (TL.numL_val _).symm
        · rintro ⟨x, y⟩
          refine ⟨two.mpr ⟨by rw [x]; decide +kernel, by rw [y]; exact hb.symm, by rw [y]; exact v1.1⟩, ?_⟩
          rw [lcs]
          decide
      have qn : IsRat ([49] ++ 47 :: B) (⟨1, N, v1.2, by show Nat.gcd (1 : Int).natAbs N = 1; simp⟩ : Rat) := (is1 _).mpr ⟨rfl, rfl⟩
      refine ⟨_, _, rfl, rfl, by rw [lit1, SX.S_len, SX.S_len, lb]; exact line_ge (by decide), .str (SX.S ([49] ++ 47 :: B)), by rw [lit1, SX.S_cat]; rfl, .inl ⟨_, rfl, by rw [lcs]; decide, fun q hq p H5 e5 _ g5 => ?_, fun no => absurd ⟨_, qn⟩ no⟩⟩
      obtain ⟨x, y⟩ := (is1 q).mp hq
      rw [x, y] at g5
      refine ⟨_, _, congrArg V.str three, rfl, by decide, by decide, by decide, ?_⟩
      rw [hB]
      refine ⟨_, _, rfl, ib, by rw [SX.S_len, lb]; decide, (by show 2 ≤ sizeLine; decide), fun p2 hp2 => ?_⟩
      have e6 : Ex H5 (upd H5 p2 (.tup [.int 1, .int (N : Int)])) := Ex.new hp2
      refine ⟨_, _, .tup (SqT.of (e6 _ _ g5)) (.cons (.int _) (.cons (.int _) .nil)), .tup (SqT.of upd_same) (.cons (.int _) (.cons (.int _) .nil)), rfl, rfl, _, rfl, ?_⟩
      rw [show PyData.eqv (.tuple [.int 1, .int (N : Int)]) (.tuple [.int 1, .int (N : Int)]) = true by simp [PyData.eqv, PyData.eqvAll]]
      have t24 : Str.ofString "2/4" = SX.S ([50] ++ 47 :: [52]) := by decide +kernel
      have no24 : ¬ ∃ q, IsRat ([50] ++ 47 :: [52]) q := fun ⟨q, hq, _⟩ => by
        obtain ⟨x, y, _⟩ := (WT.ratL_two (a := [50]) (b := [52]) (by decide) q).mp hq
        have n2 : q.num = 2 := (WT.intL_inj (show WT.intL 2 = WT.intL q.num by rw [← x]; decide +kernel)).symm
        have d4 : q.den = 4 := by
          have h : WT.dv [52] = q.den := by rw [y]; exact TL.numL_val _
          rw [← h]
          decide +kernel
        have r := q.reduced
        rw [n2, d4] at r
        exact absurd r (by decide)
      refine iteT ⟨.str (SX.S ([50] ++ 47 :: [52])), by rw [← t24]; rfl, .inl ⟨_, rfl, by decide, fun q hq => absurd ⟨q, hq⟩ no24, fun _ p3 H6 e6 _ g6 => ?_⟩⟩
      refine ⟨(by show 2 ≤ sizeLine; decide), fun p4 hp4 => ?_⟩
      rw [← t24] at g6
      have e7 : Ex H6 (upd H6 p4 (.tup [.str "text", .str "2/4"])) := Ex.new hp4
      refine ⟨_, _, .tup (SqT.of (e7 _ _ g6)) (.cons (.str _) (.cons (.str _) .nil)), .tup (SqT.of upd_same) (.cons (.str _) (.cons (.str _) .nil)), by decide +kernel, by decide +kernel, ?_⟩
      rw [show PyData.eqv (.tuple [.str "text", .str "2/4"]) (.tuple [.str "text", .str "2/4"]) = true by simp [PyData.eqv, PyData.eqvAll]]
      exact k _
/-! ### the head -/
def cCat (x m : Str) : Fg → Bool := fun K => match PySem.W.findCls K (.ref (gAd x K)) (.type "type") m with
  | some (.get (.builtin i) (.ref p) .none (.ref C)) => decide (i = "classmethod.__get__" ∧ p = mAd x m K ∧ C = gAd x K)
  | _ => false
theorem cat_of {K : Fg} {x m : Str} (c : cCat x m K = true) : PySem.W.findCls K (.ref (gAd x K)) (.type "type") m = some (.get (.builtin "classmethod.__get__") (.ref (mAd x m K)) .none (.ref (gAd x K))) := by
  unfold cCat at c
  split at c
  · rename_i e
    obtain ⟨rfl, rfl, rfl⟩ := of_decide_eq_true c
    exact e
  · cases c
def cCrc (x m : Str) : Fg → Bool := fun K => match PySem.W.recIn K (mAd x m K) "classmethod" with
  | some (.ref _ :: _) => true
  | _ => false
theorem crc_of {K : Fg} {x m : Str} (c : cCrc x m K = true) : ∃ rest, PySem.W.recIn K (mAd x m K) "classmethod" = some (.ref (rAd "classmethod" x m K) :: rest) := by
  unfold cCrc at c
  unfold rAd
  split at c
  · rename_i g r e
    rw [e]
    exact ⟨r, rfl⟩
  · cases c
def fn0 : List Df := [⟨gAd "law", "law", "law", s_law, []⟩, ⟨gAd "is_whole", "is_whole", "is_whole", s_is_whole, []⟩, ⟨gAd "is_number", "is_number", "is_number", s_is_number, []⟩, ⟨gAd "as_ratio", "as_ratio", "as_ratio", s_as_ratio, []⟩, ⟨gAd "is_list", "is_list", "is_list", s_is_list, []⟩, ⟨gAd "_check_numbers", "_check_numbers", "_check_numbers", s__check_numbers, []⟩, ⟨gAd "_check_some_numbers", "_check_some_numbers", "_check_some_numbers", s__check_some_numbers, []⟩, ⟨gAd "is_below", "is_below", "is_below", s_is_below, []⟩, ⟨gAd "common_bottom", "common_bottom", "common_bottom", s_common_bottom, []⟩, ⟨gAd "total", "total", "total", s_total, []⟩, ⟨gAd "least", "least", "least", s_least, []⟩, ⟨gAd "greatest", "greatest", "greatest", s_greatest, []⟩]
def fn1 : List Df := [⟨gAd "_is_digits", "_is_digits", "_is_digits", s__is_digits, []⟩, ⟨gAd "_law_cell", "_law_cell", "_law_cell", s__law_cell, []⟩, ⟨gAd "_law_bag", "_law_bag", "_law_bag", s__law_bag, []⟩, ⟨gAd "_law_take", "_law_take", "_law_take", s__law_take, []⟩, ⟨gAd "_law_parted", "_law_parted", "_law_parted", s__law_parted, []⟩, ⟨gAd "_law_text", "_law_text", "_law_text", s__law_text, []⟩, ⟨gAd "_law_number", "_law_number", "_law_number", s__law_number, []⟩, ⟨gAd "_law_read", "_law_read", "_law_read", s__law_read, []⟩, ⟨gAd "_law_drawn", "_law_drawn", "_law_drawn", s__law_drawn, []⟩, ⟨gAd "_law_spoilt", "_law_spoilt", "_law_spoilt", s__law_spoilt, []⟩, ⟨gAd "_law_found", "_law_found", "_law_found", s__law_found, []⟩, ⟨gAd "_law_refused", "_law_refused", "_law_refused", s__law_refused, []⟩]
def fn2 : List Df := [⟨gAd "_law_odd_right", "_law_odd_right", "_law_odd_right", s__law_odd_right, []⟩, ⟨gAd "_law_grown", "_law_grown", "_law_grown", s__law_grown, []⟩, ⟨mAd "Ratio" "__init__", "__init__", "Ratio.__init__", s_Ratio_init, [.int 1]⟩, ⟨mAd "Ratio" "__neg__", "__neg__", "Ratio.__neg__", s_Ratio_neg, []⟩, ⟨mAd "Ratio" "__eq__", "__eq__", "Ratio.__eq__", s_Ratio_eq, []⟩, ⟨mAd "Ratio" "below", "below", "Ratio.below", s_Ratio_below, []⟩, ⟨mAd "Ratio" "text", "text", "Ratio.text", s_Ratio_text, []⟩, ⟨rAd "property" "Ratio" "top", "top", "Ratio.top", s_Ratio_top, []⟩, ⟨rAd "property" "Ratio" "bottom", "bottom", "Ratio.bottom", s_Ratio_bottom, []⟩, ⟨mAd "InvalidNumber" "__init__", "__init__", "InvalidNumber.__init__", s_InvalidNumber_init, []⟩, ⟨mAd "InvalidText" "__init__", "__init__", "InvalidText.__init__", s_InvalidText_init, []⟩, ⟨rAd "classmethod" "Ratio" "read", "read", "Ratio.read", s_Ratio_read, []⟩]
def fn : List Df := fn0 ++ (fn1 ++ (fn2))
def cs0 : List (Fg → Bool) := [cGlo "law", cGlo "is_whole", cGlo "is_number", cGlo "as_ratio", cGlo "is_list", cGlo "_check_numbers", cGlo "_check_some_numbers", cGlo "is_below", cGlo "common_bottom", cGlo "total", cGlo "least", cGlo "greatest"]
def cs1 : List (Fg → Bool) := [cGlo "_is_digits", cGlo "_law_cell", cGlo "_law_bag", cGlo "_law_take", cGlo "_law_parted", cGlo "_law_text", cGlo "_law_number", cGlo "_law_read", cGlo "_law_drawn", cGlo "_law_spoilt", cGlo "_law_found", cGlo "_law_refused"]
def cs2 : List (Fg → Bool) := [cGlo "_law_odd_right", cGlo "_law_grown", cGlo "Ratio", cGlo "ByZero", cGlo "WinError", cGlo "InvalidNumber", cGlo "InvalidText", cFree "isinstance", cFree "int", cFree "bool", cFree "list", cFree "tuple"]
def cs3 : List (Fg → Bool) := [cFree "all", cFree "len", cFree "sum", cFree "range", cFree "max", cFree "abs", cFree "str", cFree "min", cBlt "gcd" "math.gcd", cBlt "lcm" "math.lcm", cCls "Ratio", cMk "Ratio"]
def cs4 : List (Fg → Bool) := [cProp "Ratio" "top", cProp "Ratio" "bottom", cNo "Ratio" "_top", cNo "Ratio" "_bottom", cMeth "Ratio" "__neg__", cMeth "Ratio" "__eq__", cMeth "Ratio" "below", cMeth "Ratio" "text", fun K => decide (PySem.W.kitOne K (.type "int") (.ref (gAd "Ratio" K)) = some false), fun K => decide (PySem.W.findIn K (.ref (gAd "Ratio" K)) "__class__" = some (some (.builtin "object.__class__"))), fun K => decide (PySem.W.mroIn K (gAd "Ratio" K) (.type "object") = some true), fun K => decide (PySem.W.kitOne K (.ref (gAd "Ratio" K)) (.type "int") = some false)]
def cs5 : List (Fg → Bool) := [fun K => decide (PySem.W.kitOne K (.ref (gAd "Ratio" K)) (.type "bool") = some false), fun K => decide (PySem.W.kitOne K (.ref (gAd "Ratio" K)) (.ref (gAd "Ratio" K)) = some true), fun K => decide (PySem.W.selfFirst K (gAd "Ratio" K) = true), fun K => decide (PySem.W.kitOne K (.ref (gAd "Ratio" K)) (.type "str") = some false), fun K => decide (PySem.W.subIn K (.type "int") (.ref (gAd "Ratio" K)) = some false), fun K => decide (∀ n ∈ ["NoneType", "bool", "str", "list", "tuple", "dict"], PySem.W.subIn K (.type n) (.ref (gAd "Ratio" K)) = some false), fun K => decide (∀ n ∈ ["NoneType", "bool", "str", "list", "tuple", "dict"], PySem.W.kitOne K (.type n) (.ref (gAd "Ratio" K)) = some false), fun K => decide (PySem.W.findIn K (.ref (gAd "Ratio" K)) "__ne__" = some (some (.builtin "object.__ne__"))), fun K => decide (PySem.W.subIn K (.ref (gAd "Ratio" K)) (.type "object") = some true), fun K => decide (PySem.W.excIn K (gAd "ByZero" K) [.type "ValueError", .type "Exception", .type "BaseException", .type "object"] "ValueError.__new__" = true), fun K => decide (PySem.W.keepIn K (.ref (gAd "ByZero" K)) = true), fun K => decide (PySem.W.subIn K (.ref (gAd "ByZero" K)) (.type "BaseException") = some true)]
def cs6 : List (Fg → Bool) := [fun K => decide (PySem.W.typeIn K (.ref (gAd "ByZero" K)) = some (.type "type")), fun K => decide (PySem.W.excIn K (gAd "WinError" K) [.type "ValueError", .type "Exception", .type "BaseException", .type "object"] "ValueError.__new__" = true), fun K => decide (PySem.W.keepIn K (.ref (gAd "WinError" K)) = true), fun K => decide (PySem.W.subIn K (.ref (gAd "WinError" K)) (.type "BaseException") = some true), fun K => decide (PySem.W.typeIn K (.ref (gAd "WinError" K)) = some (.type "type")), fun K => oexB K (gAd "InvalidNumber" K), fun K => xfB K (gAd "InvalidNumber" K), fun K => decide (PySem.W.findIn K (.ref (gAd "InvalidNumber" K)) "__setattr__" = some (some (.builtin "object.__setattr__"))), fun K => decide (PySem.W.subIn K (.ref (gAd "InvalidNumber" K)) (.type "BaseException") = some true), fun K => decide (PySem.W.typeIn K (.ref (gAd "InvalidNumber" K)) = some (.type "type")), fun K => decide (PySem.W.keepIn K (.ref (gAd "InvalidNumber" K)) = true), fun K => decide (PySem.W.findIn K (.ref (gAd "InvalidNumber" K)) "__init__" = some (some (.ref (mAd "InvalidNumber" "__init__" K))))]
def cs7 : List (Fg → Bool) := [fun K => decide (PySem.W.typeIn K (.ref (mAd "InvalidNumber" "__init__" K)) = some (.type "function")), fun K => decide (PySem.W.findIn K (.ref (gAd "InvalidNumber" K)) "value" = some none), fun K => oexB K (gAd "InvalidText" K), fun K => xfB K (gAd "InvalidText" K), fun K => decide (PySem.W.findIn K (.ref (gAd "InvalidText" K)) "__setattr__" = some (some (.builtin "object.__setattr__"))), fun K => decide (PySem.W.subIn K (.ref (gAd "InvalidText" K)) (.type "BaseException") = some true), fun K => decide (PySem.W.typeIn K (.ref (gAd "InvalidText" K)) = some (.type "type")), fun K => decide (PySem.W.keepIn K (.ref (gAd "InvalidText" K)) = true), fun K => decide (PySem.W.findIn K (.ref (gAd "InvalidText" K)) "__init__" = some (some (.ref (mAd "InvalidText" "__init__" K)))), fun K => decide (PySem.W.typeIn K (.ref (mAd "InvalidText" "__init__" K)) = some (.type "function")), fun K => decide (PySem.W.findIn K (.ref (gAd "InvalidText" K)) "value" = some none), fun K => decide (PySem.W.exmOne K (.ref (gAd "InvalidNumber" K)) (.ref (gAd "InvalidNumber" K)) = some true)]
def cs8 : List (Fg → Bool) := [fun K => decide (PySem.W.exmOne K (.ref (gAd "ByZero" K)) (.ref (gAd "InvalidNumber" K)) = some false), fun K => decide (PySem.W.exmOne K (.ref (gAd "ByZero" K)) (.ref (gAd "ByZero" K)) = some true), fun K => decide (PySem.W.exmOne K (.ref (gAd "InvalidText" K)) (.ref (gAd "InvalidText" K)) = some true), cInt "LONGEST_TEXT" 100, fun K => PySem.W.readsIn K (gAd "Ratio" K) (.type "type"), fun K => decide (PySem.W.specialIn K (.ref (gAd "Ratio" K)) "__getattribute__" = some (some (.builtin "type.__getattribute__"))), cCat "Ratio" "read", cCrc "Ratio" "read", fun K => PySem.W.fnIn K (rAd "classmethod" "Ratio" "read" K)]
def cs : List (Fg → Bool) := cs0 ++ (cs1 ++ (cs2 ++ (cs3 ++ (cs4 ++ (cs5 ++ (cs6 ++ (cs7 ++ (cs8))))))))
abbrev RR : PySem.W.OpenRow := PySem.W.OpenLaw.row PySem.Challenge.rw_winoften_k03_texts_of_ratios
abbrev hkk : PySem.W.Hook := hook 5 cs fn
def obb (s : PySem.W.SharedT) : Bool × List FnSeen := lookG 5 cs fn (HandSHeadRun.getT s)
theorem ob_eq (s : PySem.W.SharedT) : obb s = hkk.obs s.abs := lookG_eq (HandSHeadRun.getT_eq s)
def loose : List Str := (["__name__", "WinError", "InvalidNumber", "InvalidText", "ByZero", "is_whole", "is_list", "LONGEST_TEXT", "Ratio", "is_number", "as_ratio", "is_below", "common_bottom", "total", "least", "greatest", "_is_digits", "_check_numbers", "_check_some_numbers"] : List Str) ++ (["_law_cell", "_law_bag", "_law_take", "_law_parted", "_law_text", "_law_number", "_law_read", "_law_drawn", "_law_spoilt", "_law_found", "_law_refused", "_law_odd_right", "_law_grown"] : List Str)
def seen : List Nat := [0, 36]
def lawAt : Nat := 36
abbrev lawRoom : Nat := 12
theorem run (w : World) : HandSHeadRun.RunEqI RR (PySem.W.view RR.prog seen) hkk obb 6000 loose w := by
  unfold HandSHeadRun.RunEqI seen
  kernel_rfl
/-! ### what the head tells -/
theorem vals_rev {xs : List V} {us : List Value} (r : Vals xs us) : Vals xs.reverse us.reverse := by
  induction r with
  | nil => exact .nil
  | cons h _ ih =>
    rw [List.reverse_cons, List.reverse_cons]
    exact ih.append (.cons h .nil)
/-- whatever an exception is, at some world -/
def CXE : CXT := fun outer H s E u s' => ∃ (P : Program) (w : World), L2.CX P w outer H s E u s'
theorem fn_cxe {P : Program} {w : World} {K : Fg} {mg : Str → Option Value} {base : Heap} {k : Nat} {f : Addr} {fd : FuncData} {ps : List Str} {sp : Sp} (F : FnX P w K mg base k f fd ps sp) : FnOk P w K mg base CXE k f fd ps sp :=
  ⟨F.len, fun A outer s H args us vs Q E hr he hb hv hs => codeAny_mono (F.run A outer s H args us vs Q E hr he hb hv hs) fun r s' h => by
    cases r with
    | error e => exact ⟨P, w, h⟩
    | ok fl =>
      cases fl with
      | ret u => exact h
      | _ => exact h⟩
theorem facts {P : Program} {w : World} {K : Fg} {h : Heap} {mg : Str → Option Value} {f : Addr} (X : K.In h) (G : h.Ns mainGlobals mg) (hfa : mg ("law" : Str) = some (.ref f)) (c : Tells cs fn K) :
    ∃ fd : FuncData, (∀ (s : Shared) (v : Value), BindsTo s fd ⟨[v], []⟩ [("_law_script", v)]) ∧ ∀ base : Heap, K.In base → base.Ns mainGlobals mg → FnOk P w K mg base CXE 12 f fd ["_law_script"] (spLaw K) := by
  obtain ⟨fd_law, F_law⟩ := c.def_ 0 rfl
  obtain ⟨fd_is_whole, F_is_whole⟩ := c.def_ 1 rfl
  obtain ⟨fd_is_number, F_is_number⟩ := c.def_ 2 rfl
  obtain ⟨fd_as_ratio, F_as_ratio⟩ := c.def_ 3 rfl
  obtain ⟨fd_is_list, F_is_list⟩ := c.def_ 4 rfl
  obtain ⟨fd__check_numbers, F__check_numbers⟩ := c.def_ 5 rfl
  obtain ⟨fd__check_some_numbers, F__check_some_numbers⟩ := c.def_ 6 rfl
  obtain ⟨fd_is_below, F_is_below⟩ := c.def_ 7 rfl
  obtain ⟨fd_common_bottom, F_common_bottom⟩ := c.def_ 8 rfl
  obtain ⟨fd_total, F_total⟩ := c.def_ 9 rfl
  obtain ⟨fd_least, F_least⟩ := c.def_ 10 rfl
  obtain ⟨fd_greatest, F_greatest⟩ := c.def_ 11 rfl
  obtain ⟨fd__is_digits, F__is_digits⟩ := c.def_ 12 rfl
  obtain ⟨fd__law_cell, F__law_cell⟩ := c.def_ 13 rfl
  obtain ⟨fd__law_bag, F__law_bag⟩ := c.def_ 14 rfl
  obtain ⟨fd__law_take, F__law_take⟩ := c.def_ 15 rfl
  obtain ⟨fd__law_parted, F__law_parted⟩ := c.def_ 16 rfl
  obtain ⟨fd__law_text, F__law_text⟩ := c.def_ 17 rfl
  obtain ⟨fd__law_number, F__law_number⟩ := c.def_ 18 rfl
  obtain ⟨fd__law_read, F__law_read⟩ := c.def_ 19 rfl
  obtain ⟨fd__law_drawn, F__law_drawn⟩ := c.def_ 20 rfl
  obtain ⟨fd__law_spoilt, F__law_spoilt⟩ := c.def_ 21 rfl
  obtain ⟨fd__law_found, F__law_found⟩ := c.def_ 22 rfl
  obtain ⟨fd__law_refused, F__law_refused⟩ := c.def_ 23 rfl
  obtain ⟨fd__law_odd_right, F__law_odd_right⟩ := c.def_ 24 rfl
  obtain ⟨fd__law_grown, F__law_grown⟩ := c.def_ 25 rfl
  obtain ⟨fd_Ratio_init, F_Ratio_init⟩ := c.def_ 26 rfl
  obtain ⟨fd_Ratio_neg, F_Ratio_neg⟩ := c.def_ 27 rfl
  obtain ⟨fd_Ratio_eq, F_Ratio_eq⟩ := c.def_ 28 rfl
  obtain ⟨fd_Ratio_below, F_Ratio_below⟩ := c.def_ 29 rfl
  obtain ⟨fd_Ratio_text, F_Ratio_text⟩ := c.def_ 30 rfl
  obtain ⟨fd_Ratio_top, F_Ratio_top⟩ := c.def_ 31 rfl
  obtain ⟨fd_Ratio_bottom, F_Ratio_bottom⟩ := c.def_ 32 rfl
  obtain ⟨fd_InvalidNumber_init, F_InvalidNumber_init⟩ := c.def_ 33 rfl
  obtain ⟨fd_InvalidText_init, F_InvalidText_init⟩ := c.def_ 34 rfl
  obtain ⟨fd_Ratio_read, F_Ratio_read⟩ := c.def_ 35 rfl
  have e := hfa.symm.trans (glo_of X G (c.fact 0 rfl))
  cases e
  have b := FunD.bindsA (ps := ["_law_script"]) F_law fun _ _ _ _ _ _ us hl => match us, hl with | [_], _ => rfl
  refine ⟨fd_law, fun s v => b s [v] rfl, fun base _ _ => ?_⟩
  have m_isinstance : mg "isinstance" = none := free_of X G (c.fact 31 rfl)
  have m_int : mg "int" = none := free_of X G (c.fact 32 rfl)
  have m_bool : mg "bool" = none := free_of X G (c.fact 33 rfl)
  have m_list : mg "list" = none := free_of X G (c.fact 34 rfl)
  have m_tuple : mg "tuple" = none := free_of X G (c.fact 35 rfl)
  have m_all : mg "all" = none := free_of X G (c.fact 36 rfl)
  have m_len : mg "len" = none := free_of X G (c.fact 37 rfl)
  have m_sum : mg "sum" = none := free_of X G (c.fact 38 rfl)
  have m_range : mg "range" = none := free_of X G (c.fact 39 rfl)
  have m_max : mg "max" = none := free_of X G (c.fact 40 rfl)
  have m_abs : mg "abs" = none := free_of X G (c.fact 41 rfl)
  have m_str : mg "str" = none := free_of X G (c.fact 42 rfl)
  have m_min : mg "min" = none := free_of X G (c.fact 43 rfl)
  have g_gcd := blt_of X G (x := "gcd") (id := "math.gcd") (c.fact 44 rfl)
  have g_lcm := blt_of X G (x := "lcm") (id := "math.lcm") (c.fact 45 rfl)
  have g_Ratio := glo_of X G (x := "Ratio") (c.fact 26 rfl)
  have cl := cls_of (x := "Ratio") (c.fact 46 rfl)
  have mk := mk_of (x := "Ratio") (c.fact 47 rfl)
  have T : RatC K (gAd "Ratio" K) := ⟨cl, no_of (c.fact 50 rfl), no_of (c.fact 51 rfl), (of_decide_eq_true (c.fact 56 rfl)), (of_decide_eq_true (c.fact 57 rfl)), (of_decide_eq_true (c.fact 58 rfl)), (of_decide_eq_true (c.fact 59 rfl)), (of_decide_eq_true (c.fact 60 rfl)), (of_decide_eq_true (c.fact 61 rfl))⟩
  have O : RatO K (gAd "Ratio" K) := ⟨(of_decide_eq_true (c.fact 64 rfl)), (of_decide_eq_true (c.fact 65 rfl)), (of_decide_eq_true (c.fact 66 rfl))⟩
  have z : ExcC K mg "ByZero" (gAd "ByZero" K) := ⟨(glo_of X G (c.fact 27 rfl)), (of_decide_eq_true (c.fact 69 rfl)), (of_decide_eq_true (c.fact 70 rfl)), (of_decide_eq_true (c.fact 71 rfl)), (of_decide_eq_true (c.fact 72 rfl))⟩
  have zw : ExcC K mg "WinError" (gAd "WinError" K) := ⟨(glo_of X G (c.fact 28 rfl)), (of_decide_eq_true (c.fact 73 rfl)), (of_decide_eq_true (c.fact 74 rfl)), (of_decide_eq_true (c.fact 75 rfl)), (of_decide_eq_true (c.fact 76 rfl))⟩
  have Tvn : OexC K (gAd "InvalidNumber" K) := ⟨oexB_ok (c.fact 77 rfl), (of_decide_eq_true (c.fact 79 rfl)), (of_decide_eq_true (c.fact 80 rfl)), (of_decide_eq_true (c.fact 81 rfl)), (of_decide_eq_true (c.fact 82 rfl))⟩
  have vn : ExcV P w K mg base "InvalidNumber" "value" (gAd "InvalidNumber" K) := ⟨(glo_of X G (c.fact 29 rfl)), Tvn, ⟨_, _, (of_decide_eq_true (c.fact 83 rfl)), (of_decide_eq_true (c.fact 84 rfl)), F_InvalidNumber_init.bindsN (fun _ _ _ _ _ _ us hl => match us, hl with | [_, _], _ => rfl), ok_InvalidNumber_init F_InvalidNumber_init Tvn (of_decide_eq_true (c.fact 85 rfl))⟩, xfB_ok (c.fact 78 rfl), (of_decide_eq_true (c.fact 85 rfl))⟩
  have Tvt : OexC K (gAd "InvalidText" K) := ⟨oexB_ok (c.fact 86 rfl), (of_decide_eq_true (c.fact 88 rfl)), (of_decide_eq_true (c.fact 89 rfl)), (of_decide_eq_true (c.fact 90 rfl)), (of_decide_eq_true (c.fact 91 rfl))⟩
  have vt : ExcV P w K mg base "InvalidText" "value" (gAd "InvalidText" K) := ⟨(glo_of X G (c.fact 30 rfl)), Tvt, ⟨_, _, (of_decide_eq_true (c.fact 92 rfl)), (of_decide_eq_true (c.fact 93 rfl)), F_InvalidText_init.bindsN (fun _ _ _ _ _ _ us hl => match us, hl with | [_, _], _ => rfl), ok_InvalidText_init F_InvalidText_init Tvt (of_decide_eq_true (c.fact 94 rfl))⟩, xfB_ok (c.fact 87 rfl), (of_decide_eq_true (c.fact 94 rfl))⟩
  have c_is_whole : Callee P w K mg base 1 "is_whole" _ (spWhole K (gAd "Ratio" K)) := .of F_is_whole (glo_of X G (c.fact 1 rfl)) (F_is_whole.bindsN fun _ _ _ _ _ _ us hl => match us, hl with | [_], _ => rfl) (ok_is_whole F_is_whole m_isinstance m_int)
  have ri : FnX P w K mg base 2 _ fd_Ratio_init ["self", "top", "bottom"] (spRInit (gAd "Ratio" K) (gAd "ByZero" K)) := ok_Ratio_init F_Ratio_init T m_isinstance m_int g_gcd z
  have rx : FnX P w K mg base 3 _ fd_Ratio_init ["self", "top", "bottom"] (spRInitX K (gAd "Ratio" K) (gAd "ByZero" K) (gAd "InvalidNumber" K)) := ok_Ratio_initX F_Ratio_init T m_isinstance m_int g_gcd z vn
  obtain ⟨ds2, r2, b2⟩ := F_Ratio_init.binds1 (ps := ["self", "top", "bottom"]) 3 1 (fun z => nomatch z) rfl fun _ _ _ _ _ _ _ us its l1 l2 => match us, its, l1, l2 with | [_, _, _], [_], _, _ => ⟨_, rfl, rfl⟩
  obtain ⟨ds1, r1, b1⟩ := F_Ratio_init.binds1 (ps := ["self", "top", "bottom"]) 2 0 (fun z => nomatch z) rfl fun _ _ _ _ _ _ _ us its l1 l2 => match us, its, l1, l2 with | [_, _], [_], _, _ => ⟨_, rfl, rfl⟩
  have k2 : Maker P w K mg base 2 "Ratio" (gAd "Ratio" K) ["self", "top", "bottom"] [] (spRInit (gAd "Ratio" K) (gAd "ByZero" K)) := ⟨_, _, ds2, g_Ratio, mk, b2, r2, ri⟩
  have k1 : Maker P w K mg base 2 "Ratio" (gAd "Ratio" K) ["self", "top", "bottom"] [.int 1] (spRInit (gAd "Ratio" K) (gAd "ByZero" K)) := ⟨_, _, ds1, g_Ratio, mk, b1, r1, ri⟩
  have kx2 : Maker P w K mg base 3 "Ratio" (gAd "Ratio" K) ["self", "top", "bottom"] [] (spRInitX K (gAd "Ratio" K) (gAd "ByZero" K) (gAd "InvalidNumber" K)) := ⟨_, _, ds2, g_Ratio, mk, b2, r2, rx⟩
  have kx1 : Maker P w K mg base 3 "Ratio" (gAd "Ratio" K) ["self", "top", "bottom"] [.int 1] (spRInitX K (gAd "Ratio" K) (gAd "ByZero" K) (gAd "InvalidNumber" K)) := ⟨_, _, ds1, g_Ratio, mk, b1, r1, rx⟩
  have p_top : Getter P w K mg base 1 (gAd "Ratio" K) "top" (spTop (gAd "Ratio" K)) := ⟨_, _, _, cl, prop_of (c.fact 48 rfl), F_Ratio_top.bindsN fun _ _ _ _ _ _ us hl => match us, hl with | [_], _ => rfl, ok_Ratio_top F_Ratio_top T⟩
  have p_bottom : Getter P w K mg base 1 (gAd "Ratio" K) "bottom" (spBottom (gAd "Ratio" K)) := ⟨_, _, _, cl, prop_of (c.fact 49 rfl), F_Ratio_bottom.bindsN fun _ _ _ _ _ _ us hl => match us, hl with | [_], _ => rfl, ok_Ratio_bottom F_Ratio_bottom T⟩
  have c_is_number : Callee P w K mg base 2 "is_number" _ (spNumber K (gAd "Ratio" K)) := .of F_is_number (glo_of X G (c.fact 2 rfl)) (F_is_number.bindsN fun _ _ _ _ _ _ us hl => match us, hl with | [_], _ => rfl) (ok_is_number F_is_number c_is_whole m_isinstance g_Ratio)
  have c_as_ratio : Callee P w K mg base 4 "as_ratio" _ (spAsRatio (gAd "Ratio" K)) := .of F_as_ratio (glo_of X G (c.fact 3 rfl)) (F_as_ratio.bindsN fun _ _ _ _ _ _ us hl => match us, hl with | [_], _ => rfl) (ok_as_ratio F_as_ratio T m_isinstance g_Ratio k1)
  have x_as_ratio : Callee P w K mg base 5 "as_ratio" _ (spAsRatioX K (gAd "Ratio" K) (gAd "InvalidNumber" K)) := .of F_as_ratio (glo_of X G (c.fact 3 rfl)) (F_as_ratio.bindsN fun _ _ _ _ _ _ us hl => match us, hl with | [_], _ => rfl) (ok_as_ratioX F_as_ratio T m_isinstance g_Ratio kx1)
  have o_neg : NegOk P w K mg base 5 (gAd "Ratio" K) (spNeg (gAd "Ratio" K)) := ⟨_, _, ["self"], (meth_of (c.fact 52 rfl)).at_, (meth_of (c.fact 52 rfl)).fn, F_Ratio_neg.bindsN (fun _ _ _ _ _ _ us hl => match us, hl with | [_], _ => rfl), ok_Ratio_neg F_Ratio_neg T k2⟩
  have eq : EqOk P w K mg base 3 (gAd "Ratio" K) (spEqR K (gAd "Ratio" K)) := ⟨⟨_, _, ["self", "other"], (meth_of (c.fact 53 rfl)).at_, (meth_of (c.fact 53 rfl)).fn, F_Ratio_eq.bindsN (fun _ _ _ _ _ _ us hl => match us, hl with | [_, _], _ => rfl), ok_Ratio_eq F_Ratio_eq T c_is_whole m_isinstance g_Ratio⟩, (of_decide_eq_true (c.fact 67 rfl)), (of_decide_eq_true (c.fact 68 rfl))⟩
  have m_below2 : Mthd P w K mg base 2 (gAd "Ratio" K) "below" ["self", "number"] (spBelow (gAd "Ratio" K)) := ⟨_, _, cl, meth_of (c.fact 54 rfl), F_Ratio_below.bindsN (fun _ _ _ _ _ _ us hl => match us, hl with | [_, _], _ => rfl), ok_Ratio_below F_Ratio_below T c_is_whole m_isinstance g_Ratio⟩
  have m_text : Mthd P w K mg base 1 (gAd "Ratio" K) "text" ["self"] (spText (gAd "Ratio" K)) := ⟨_, _, cl, meth_of (c.fact 55 rfl), F_Ratio_text.bindsN (fun _ _ _ _ _ _ us hl => match us, hl with | [_], _ => rfl), ok_text F_Ratio_text T m_str⟩
  have c_is_list : Callee P w K mg base 1 "is_list" _ (spIsList K) := .of F_is_list (glo_of X G (c.fact 4 rfl)) (F_is_list.bindsN fun _ _ _ _ _ _ us hl => match us, hl with | [_], _ => rfl) (ok_is_list F_is_list m_isinstance m_list m_tuple)
  have x_is_list : Callee P w K mg base 1 "is_list" _ (spIsListX K) := .of F_is_list (glo_of X G (c.fact 4 rfl)) (F_is_list.bindsN fun _ _ _ _ _ _ us hl => match us, hl with | [_], _ => rfl) (ok_is_listX F_is_list m_isinstance m_list m_tuple)
  have c__check_numbers : Callee P w K mg base 4 "_check_numbers" _ (spCheck K (gAd "Ratio" K)) := .of F__check_numbers (glo_of X G (c.fact 5 rfl)) (F__check_numbers.bindsN fun _ _ _ _ _ _ us hl => match us, hl with | [_], _ => rfl) (ok_check_numbers F__check_numbers T c_is_list c_is_number m_all)
  have x__check_numbers : Callee P w K mg base 4 "_check_numbers" _ (spCheckX K (gAd "Ratio" K) (gAd "InvalidNumber" K)) := .of F__check_numbers (glo_of X G (c.fact 5 rfl)) (F__check_numbers.bindsN fun _ _ _ _ _ _ us hl => match us, hl with | [_], _ => rfl) (ok_check_numbersX F__check_numbers T x_is_list c_is_number m_all vn)
  have c__check_some_numbers : Callee P w K mg base 5 "_check_some_numbers" _ (spCheckSome K (gAd "Ratio" K)) := .of F__check_some_numbers (glo_of X G (c.fact 6 rfl)) (F__check_some_numbers.bindsN fun _ _ _ _ _ _ us hl => match us, hl with | [_], _ => rfl) (ok_check_some F__check_some_numbers c__check_numbers m_len)
  have x__check_some_numbers : Callee P w K mg base 5 "_check_some_numbers" _ (spBadS K (gAd "Ratio" K) (gAd "InvalidNumber" K)) := .of F__check_some_numbers (glo_of X G (c.fact 6 rfl)) (F__check_some_numbers.bindsN fun _ _ _ _ _ _ us hl => match us, hl with | [_], _ => rfl) (ok_check_someX F__check_some_numbers x__check_numbers m_len vn)
  have c_is_below : Callee P w K mg base 3 "is_below" _ (spIsBelow (gAd "Ratio" K)) := .of F_is_below (glo_of X G (c.fact 7 rfl)) (F_is_below.bindsN fun _ _ _ _ _ _ us hl => match us, hl with | [_, _], _ => rfl) (ok_is_below F_is_below T m_isinstance g_Ratio m_below2)
  have c_common_bottom : Callee P w K mg base 5 "common_bottom" _ (spCommon K (gAd "Ratio" K)) := .of F_common_bottom (glo_of X G (c.fact 8 rfl)) (F_common_bottom.bindsN fun _ _ _ _ _ _ us hl => match us, hl with | [_], _ => rfl) (ok_common_bottom F_common_bottom T m_isinstance g_Ratio g_lcm)
  have x_total : Callee P w K mg base 6 "total" _ (spBadL K (gAd "Ratio" K) (gAd "InvalidNumber" K)) := .of F_total (glo_of X G (c.fact 9 rfl)) (F_total.bindsN fun _ _ _ _ _ _ us hl => match us, hl with | [_], _ => rfl) (ok_totalX F_total T x_is_list m_isinstance m_int g_Ratio c_common_bottom k2 k1 m_sum vn)
  have c_least : Callee P w K mg base 6 "least" _ (spLeast K (gAd "Ratio" K)) := .of F_least (glo_of X G (c.fact 10 rfl)) (F_least.bindsN fun _ _ _ _ _ _ us hl => match us, hl with | [_], _ => rfl) (ok_least F_least T c__check_some_numbers c_is_below m_range m_len)
  have x_least : Callee P w K mg base 6 "least" _ (spBadS K (gAd "Ratio" K) (gAd "InvalidNumber" K)) := .of F_least (glo_of X G (c.fact 10 rfl)) (F_least.bindsN fun _ _ _ _ _ _ us hl => match us, hl with | [_], _ => rfl) (ok_leastX F_least x__check_some_numbers c_is_below m_range m_len)
  have x_greatest : Callee P w K mg base 7 "greatest" _ (spBadS K (gAd "Ratio" K) (gAd "InvalidNumber" K)) := .of F_greatest (glo_of X G (c.fact 11 rfl)) (F_greatest.bindsN fun _ _ _ _ _ _ us hl => match us, hl with | [_], _ => rfl) (ok_greatestX F_greatest x__check_some_numbers c_as_ratio o_neg c_least)
  have c__is_digits : Callee P w K mg base 1 "_is_digits" _ spDigits := .of F__is_digits (glo_of X G (c.fact 12 rfl)) (F__is_digits.bindsN fun _ _ _ _ _ _ us hl => match us, hl with | [_], _ => rfl) (ok_digits F__is_digits)
  have rd : FnX P w K mg base 4 _ fd_Ratio_read ["cls", "text"] (spRead K (gAd "Ratio" K) (gAd "InvalidText" K)) := ok_read F_Ratio_read T c__is_digits k2 m_text vt m_isinstance m_str m_len m_int (int_of X G (c.fact 99 rfl))
  have crd : ClX.CRead K (gAd "Ratio" K) (.type "type") := ⟨(c.fact 100 rfl), (of_decide_eq_true (c.fact 101 rfl))⟩
  have cme : ClX.CMet K (gAd "Ratio" K) (.type "type") "read" (mAd "Ratio" "read" K) (rAd "classmethod" "Ratio" "read" K) := ⟨cat_of (c.fact 102 rfl), crc_of (c.fact 103 rfl), (c.fact 104 rfl)⟩
  have cm : WC.CMthd P w K mg base 4 (gAd "Ratio" K) "read" ["cls", "text"] (spRead K (gAd "Ratio" K) (gAd "InvalidText" K)) := ⟨_, _, _, _, crd, cme, F_Ratio_read.bindsN (fun _ _ _ _ _ _ us hl => match us, hl with | [_, _], _ => rfl), rd⟩
  have cmk : WC.CMthdK P w K mg base 4 (gAd "Ratio" K) "read" ["cls", "text"] ["text"] (fun vs zs => vs ++ zs) (spRead K (gAd "Ratio" K) (gAd "InvalidText" K)) := ⟨_, _, _, _, _, crd, cme, kbn_of F_Ratio_read 1 (fun us ws => us ++ ws) (fun r1 r2 => r1.append r2) fun _ _ _ _ _ _ us ws l1 l2 => match us, ws, l1, l2 with | [_], [_], _, _ => rfl, rd⟩
  have c__law_cell : Callee P w K mg base 1 "_law_cell" _ (spCell K) := .of F__law_cell (glo_of X G (c.fact 13 rfl)) (F__law_cell.bindsN fun _ _ _ _ _ _ us hl => match us, hl with | [_, _], _ => rfl) (ok_cell F__law_cell m_len)
  have c__law_bag : Callee P w K mg base 1 "_law_bag" _ spBag := .of F__law_bag (glo_of X G (c.fact 14 rfl)) (F__law_bag.bindsN fun _ _ _ _ _ _ us hl => match us, hl with | [_], _ => rfl) (ok_bag F__law_bag m_max)
  have c__law_take : Callee P w K mg base 1 "_law_take" _ spTake := .of F__law_take (glo_of X G (c.fact 15 rfl)) (F__law_take.bindsN fun _ _ _ _ _ _ us hl => match us, hl with | [_, _], _ => rfl) (ok_take F__law_take)
  have c__law_parted : Callee P w K mg base 1 "_law_parted" _ spFrac := .of F__law_parted (glo_of X G (c.fact 16 rfl)) (F__law_parted.bindsN fun _ _ _ _ _ _ us hl => match us, hl with | [_, _], _ => rfl) (ok_frac F__law_parted m_abs)
  have c__law_text : Callee P w K mg base 1 "_law_text" _ spLText := .of F__law_text (glo_of X G (c.fact 17 rfl)) (F__law_text.bindsN fun _ _ _ _ _ _ us hl => match us, hl with | [_], _ => rfl) (ok_ltext F__law_text m_str)
  have c__law_number : Callee P w K mg base 1 "_law_number" _ spNum := .of F__law_number (glo_of X G (c.fact 18 rfl)) (F__law_number.bindsN fun _ _ _ _ _ _ us hl => match us, hl with | [_], _ => rfl) (ok_number F__law_number m_int)
  have c__law_read : Callee P w K mg base 3 "_law_read" _ spLRead := .of F__law_read (glo_of X G (c.fact 19 rfl)) (F__law_read.bindsN fun _ _ _ _ _ _ us hl => match us, hl with | [_], _ => rfl) (ok_lread F__law_read c__law_number c__law_parted m_isinstance m_str m_len)
  have c__law_drawn : Callee P w K mg base 2 "_law_drawn" _ spLDrawn := .of F__law_drawn (glo_of X G (c.fact 20 rfl)) (F__law_drawn.bindsN fun _ _ _ _ _ _ us hl => match us, hl with | [_], _ => rfl) (ok_drawn F__law_drawn c__law_take c__law_parted)
  have c__law_spoilt : Callee P w K mg base 2 "_law_spoilt" _ spLSpoilt := .of F__law_spoilt (glo_of X G (c.fact 21 rfl)) (F__law_spoilt.bindsN fun _ _ _ _ _ _ us hl => match us, hl with | [_, _], _ => rfl) (ok_spoilt F__law_spoilt c__law_take c__law_text m_len m_str)
  have c__law_found : Callee P w K mg base 5 "_law_found" _ (spFound K (gAd "Ratio" K)) := .of F__law_found (glo_of X G (c.fact 22 rfl)) (F__law_found.bindsN fun _ _ _ _ _ _ us hl => match us, hl with | [_], _ => rfl) (ok_found F__law_found T cm g_Ratio vt p_top p_bottom (of_decide_eq_true (c.fact 98 rfl)))
  have c__law_refused : Callee P w K mg base 8 "_law_refused" _ (spRefused K (gAd "Ratio" K)) := .of F__law_refused (glo_of X G (c.fact 23 rfl)) (F__law_refused.bindsN fun _ _ _ _ _ _ us hl => match us, hl with | [_, _, _], _ => rfl) (ok_refused F__law_refused T kx2 x_as_ratio x_total x_least x_greatest vn z zw (of_decide_eq_true (c.fact 95 rfl)) (of_decide_eq_true (c.fact 96 rfl)) (of_decide_eq_true (c.fact 97 rfl)))
  have c__law_odd_right : Callee P w K mg base 9 "_law_odd_right" _ spOdd := .of F__law_odd_right (glo_of X G (c.fact 24 rfl)) (F__law_odd_right.bindsN fun _ _ _ _ _ _ us hl => match us, hl with | [_], _ => rfl) (ok_odd_right F__law_odd_right T O c__law_take c__law_refused k2 m_isinstance g_Ratio)
  have c__law_grown : Callee P w K mg base 9 "_law_grown" _ spGrown := .of F__law_grown (glo_of X G (c.fact 25 rfl)) (F__law_grown.bindsN fun _ _ _ _ _ _ us hl => match us, hl with | [], _ => rfl) (ok_grown F__law_grown O c__law_refused c__law_found m_range)
  exact fn_cxe (ok_law F_law T O ⟨c__law_cell, c__law_bag, c__law_take, c__law_drawn, c__law_text, c__law_found, c__law_spoilt, c__law_read, c__law_odd_right, c__law_grown, k2, m_text, cmk, eq⟩ g_Ratio m_range m_max m_min m_len m_int (of_decide_eq_true (c.fact 63 rfl)))
end
end PP
open PySem PySem.W PySem.Calls PyProof.Rows
theorem PySem.Challenge.cw_winoften_k03_texts_of_ratios_holds : PySem.Challenge.rw_winoften_k03_texts_of_ratios.Holds := by
  w_on; o_law
  refine HandSHeadRun.head_imp (r := PP.RR) (q := view PP.RR.prog PP.seen) (H := PP.hkk) (ob := PP.obb) (M := 6000) (loose := PP.loose) (d := HandSHeadRun.topDef PP.RR.prog PP.lawAt) (kwd := []) PP.ob_eq
    PP.run (by kernel_rfl) (by kernel_rfl) (by kernel_rfl) (by rfl) (by first | assumption | decide +kernel) (by decide +kernel) ⟨rfl, rfl, rfl, rfl, rfl, by decide +kernel⟩ ?hw ?hc
  case hw => w_witness2
  case hc =>
    refine L2.walk_ofE (l := PySem.Challenge.rw_winoften_k03_texts_of_ratios) (n := 63) (k := PP.lawRoom) (x := "_law_script") (CX := PP.CXE) rfl (by decide) (by kernel_rfl) ⟨rfl, by decide, by decide⟩ ?F fun _ _ _ _ ⟨_, _, _, _, _, _, _, _, _, _, _, _, _, _, z⟩ => z
    intro w mg fa h Y G hmg0
    obtain ⟨K, KX, c⟩ := Y
    have hmg : mg ("law" : PySem.Str) = some (.ref fa) := by
      rw [← (show (HandSHeadRun.topDef PP.RR.prog PP.lawAt).name = ("law" : PySem.Str) by kernel_rfl)]
      exact hmg0
    obtain ⟨fd, hb, hF⟩ := PP.facts (P := PP.RR.prog) (w := w) KX G hmg c
    exact ⟨K, fd, PP.spLaw K, KX, hb, fun H a ns hl _ hS => ⟨a, ns, rfl, hS, Nat.le_trans hl (by decide), fun _ => rfl⟩, hF⟩
