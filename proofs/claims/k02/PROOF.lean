import PyProof.Rows.All
import Wide.All
import OpenK.AllK
import Wide.FinOn
import HandS.ForMost
import HandS.Exc
import HandS.Defaults
import HandS.Property
import HandS.ClsMeth
import HandS.ExcInit
import HandS.Head0
import HandS.Head1
import HandS.Head2
import HandS.Head3
import HandS.HeadEnd
import HandS.HeadHook1
import HandS.HeadHook2
import HandS.Wide
import HandS.WideMore
import HandS.Gcd
import HandS.IsInst
import HandS.Style
import HandS.WordsExc
import HandS.CallSlots
import HandS.MakeKw
import HandS.Zip
import KE.KOpsOwn
import HandS.RaiseMore
import HandS.ExcOwn
import HandS.OwnEq
import KE.KMathGC
import HandS.MakeKwOnly
import HandS.TryOnly
import HandS.Walk
import PySem.Challenge.RW_winoften_k02_ratios_reckoned
set_option Elab.async false
set_option linter.all false
set_option maxRecDepth 100000
set_option maxHeartbeats 4000000
/-! The head: what the top leaves, told by tests of one's own and by functions found by a path. -/
namespace WH
open PySem PySem.Spec PyProof.Rows L2
abbrev Fg := PySem.W.Frag
/-- the address that the module's name x stands for; that of the attribute m of the class at C; the getter of a property; the def of a class method -/
def gAd (x : Str) (K : Fg) : Addr := He.ga K x
def mAd (x m : Str) (K : Fg) : Addr := He.ma K (He.ga K x) m
def rAd (T : String) (x m : Str) (K : Fg) : Addr := match PySem.W.recIn K (mAd x m K) T with
  | some (.ref g :: _) => g
  | _ => 0
/-- a def of the text, and where its function object is found -/
structure Df where
  ad : Fg → Addr
  name : Str
  qual : Str
  st : Stmt
  dfl : List V := []
abbrev FnSeen : Type := Option (Str × Str × Arguments × FuncBody × Scope × Addr × List (Str × Addr) × Addr)
def seenAt (K : Fg) (a : Addr) : FnSeen := (K.lookup a).bind fun o => match o.data with
  | .func fd => some (fd.name, fd.qualname, fd.params, fd.body, fd.scope, fd.globals, fd.closure, fd.builtins)
  | _ => none
def Df.want (d : Df) : FnSeen := some (d.name, d.qual, defArgs d.st, .stmts (defBody d.st), defScope d.st, mainGlobals, [], builtinsNs)
def Df.good (K : Fg) (d : Df) : Bool := PySem.W.keepIn K (.ref (d.ad K)) && match K.lookup (d.ad K) with
  | some ⟨_, _, .func fd, _⟩ => PySem.W.codeIn K fd.code d.qual && He.dflB K fd.defaults d.dfl
  | _ => false
abbrev FnP (K : Fg) (x qual : Str) (st : Stmt) (dvs : List V) (f : Addr) (fd : FuncData) : Prop := FunD K x qual (defArgs st) (defBody st) (defScope st) dvs [] f fd
theorem Df.fun_ {K : Fg} {d : Df} (e : seenAt K (d.ad K) = d.want) (c : d.good K = true) : ∃ fd, FnP K d.name d.qual d.st d.dfl (d.ad K) fd := by
  obtain ⟨kp, c2⟩ := Bool.and_eq_true_iff.mp c
  cases q : K.lookup (d.ad K) with
  | none => rw [q] at c2; cases c2
  | some o =>
    obtain ⟨oc, od, dt, osl⟩ := o
    unfold seenAt at e
    rw [q] at c2 e
    cases dt with
    | func fd =>
      obtain ⟨n1, n2, n3, n4, n5, n6, n7, n8, n9, n10, n11, n12, n13, n14, n15⟩ := fd
      have e2 : (some (n1, n2, n3, n4, n5, n6, n7, n15) : FnSeen) = some (d.name, d.qual, defArgs d.st, .stmts (defBody d.st), defScope d.st, mainGlobals, [], builtinsNs) := e
      injection e2 with e2
      simp only [Prod.mk.injEq] at e2
      obtain ⟨h1, h2, h3, h4, h5, h6, h7, h8⟩ := e2
      subst h1 h2 h3 h4 h5 h6 h7 h8
      obtain ⟨k1, k2⟩ := Bool.and_eq_true_iff.mp (show (PySem.W.codeIn K n13 d.qual && He.dflB K n8 d.dfl) = true from c2)
      exact ⟨_, ⟨oc, od, n8, n9, n10, n11, n12, n13, n14, osl, rfl, q, k1, He.dflB_ok k2, .inl rfl⟩, kp⟩
    | _ => cases c2
/-! the hook -/
def look (cs : List (Fg → Bool)) (fn : List Df) (K : Fg) : Bool × List FnSeen := ((cs.all fun c => c K) && fn.all fun d => d.good K, fn.map fun d => seenAt K (d.ad K))
def want (fn : List Df) : Bool × List FnSeen := (true, fn.map Df.want)
def Tells (cs : List (Fg → Bool)) (fn : List Df) (K : Fg) : Prop := look cs fn K = want fn
def lookG (n : Nat) (cs : List (Fg → Bool)) (fn : List Df) (g : Addr → Option Obj) : Bool × List FnSeen := look cs fn (He.frG g (cStatics :: He.asD g n))
def hook (n : Nat) (cs : List (Fg → Bool)) (fn : List Df) : PySem.W.Hook where
  α := Bool × List FnSeen
  obs := fun s => lookG n cs fn s.heap.get?
  val := fun _ => want fn
  says := fun _ h => ∃ K : Fg, K.In h ∧ Tells cs fn K
  of := fun _ _ e => ⟨_, He.frG_in, e⟩
  keeps := fun _ _ _ ⟨K, hK, c⟩ k => ⟨K, PySem.W.Frag.In.keeps hK k, c⟩
theorem lookG_eq {n : Nat} {cs : List (Fg → Bool)} {fn : List Df} {g : Addr → Option Obj} {s : Shared} (h : ∀ a, g a = s.heap.get? a) : lookG n cs fn g = (hook n cs fn).obs s := by
  cases (funext h : g = s.heap.get?)
  rfl
theorem Tells.fact {cs : List (Fg → Bool)} {fn : List Df} {K : Fg} (t : Tells cs fn K) (i : Nat) {c : Fg → Bool} (h : cs[i]? = some c := by rfl) : c K = true := by
  have e := (Bool.and_eq_true_iff.mp (show ((cs.all fun c => c K) && fn.all fun d => d.good K) = true from congrArg Prod.fst t)).1
  exact List.all_eq_true.mp e c (List.mem_of_getElem? h)
theorem Tells.def_ {cs : List (Fg → Bool)} {fn : List Df} {K : Fg} (t : Tells cs fn K) (i : Nat) {d : Df} (h : fn[i]? = some d := by rfl) : ∃ fd, FnP K d.name d.qual d.st d.dfl (d.ad K) fd := by
  have e := (Bool.and_eq_true_iff.mp (show ((cs.all fun c => c K) && fn.all fun d => d.good K) = true from congrArg Prod.fst t)).2
  have e2 : (fn.map fun d => seenAt K (d.ad K)) = fn.map Df.want := congrArg Prod.snd t
  have e3 : (fn.map fun d => seenAt K (d.ad K))[i]? = (fn.map Df.want)[i]? := by rw [e2]
  rw [List.getElem?_map, List.getElem?_map, h] at e3
  exact Df.fun_ (Option.some.inj e3) (List.all_eq_true.mp e d (List.mem_of_getElem? h))
/-! tests -/
def cGlo (x : Str) : Fg → Bool := fun K => decide (PySem.W.nsIn K mainGlobals x = some (some (.ref (gAd x K))))
def cFree (x : Str) : Fg → Bool := fun K => decide (PySem.W.nsIn K mainGlobals x = some none)
def cBlt (x : Str) (id : String) : Fg → Bool := fun K => decide (PySem.W.nsIn K mainGlobals x = some (some (.builtin id)))
def cInt (x : Str) (i : Int) : Fg → Bool := fun K => match PySem.W.nsIn K mainGlobals x with
  | some (some (.int j _)) => decide (j = i)
  | _ => false
def cFind (x f : Str) (v : Fg → Option Value) : Fg → Bool := fun K => decide (PySem.W.findIn K (.ref (gAd x K)) f = some (v K))
def cNo (x f : Str) : Fg → Bool := cFind x f fun _ => none
def cCls (x : Str) : Fg → Bool := fun K => PySem.W.plainGet K (gAd x K) Str.empty && (PySem.W.hasDictIn K (gAd x K) && (PySem.W.plainOver K (gAd x K) && decide (PySem.W.findIn K (.ref (gAd x K)) "__setattr__" = some (some (.builtin "object.__setattr__")))))
def cMeth (x m : Str) : Fg → Bool := fun K => decide (PySem.W.findIn K (.ref (gAd x K)) m = some (some (.ref (mAd x m K)))) && (PySem.W.isFn K (.ref (mAd x m K)) && PySem.W.keepIn K (.ref (mAd x m K)))
def cMk (x : Str) : Fg → Bool := fun K => PySem.W.makesIn K (gAd x K) && (decide (PySem.W.findIn K (.ref (gAd x K)) "__init__" = some (some (.ref (mAd x "__init__" K)))) && (PySem.W.isFn K (.ref (mAd x "__init__" K)) && PySem.W.keepIn K (.ref (gAd x K))))
def cProp (x f : Str) : Fg → Bool := fun K => decide (PySem.W.findIn K (.ref (gAd x K)) f = some (some (.ref (mAd x f K)))) && (decide (PySem.W.specialIn K (.ref (mAd x f K)) "__get__" = some (some (.builtin "property.__get__"))) &&
  (decide (PySem.W.takesIn K (.ref (mAd x f K)) = some true) && (match PySem.W.recIn K (mAd x f K) "property" with
    | some (.ref _ :: _) => true
    | _ => false)))
theorem glo_of {K : Fg} {h : Heap} {mg : Str → Option Value} (X : K.In h) (G : h.Ns mainGlobals mg) {x : Str} (c : cGlo x K = true) : mg x = some (.ref (gAd x K)) := PySem.W.mg_of X G (of_decide_eq_true c)
theorem free_of {K : Fg} {h : Heap} {mg : Str → Option Value} (X : K.In h) (G : h.Ns mainGlobals mg) {x : Str} (c : cFree x K = true) : mg x = none := PySem.W.mg_none_of X G (of_decide_eq_true c)
theorem blt_of {K : Fg} {h : Heap} {mg : Str → Option Value} (X : K.In h) (G : h.Ns mainGlobals mg) {x : Str} {id : String} (c : cBlt x id K = true) : mg x = some (.builtin id) := PySem.W.mg_of X G (of_decide_eq_true c)
theorem int_of {K : Fg} {h : Heap} {mg : Str → Option Value} (X : K.In h) (G : h.Ns mainGlobals mg) {x : Str} {i : Int} (c : cInt x i K = true) : ∃ t, mg x = some (.int i t) := by
  unfold cInt at c
  split at c
  · rename_i j t e
    rw [of_decide_eq_true c] at e
    exact ⟨t, PySem.W.mg_of X G e⟩
  · cases c
theorem find_of {K : Fg} {x f : Str} {v : Fg → Option Value} (c : cFind x f v K = true) : PySem.W.findIn K (.ref (gAd x K)) f = some (v K) := of_decide_eq_true c
theorem no_of {K : Fg} {x f : Str} (c : cNo x f K = true) : NoAttr K (gAd x K) f := find_of (v := fun _ => none) c
theorem cls_of {K : Fg} {x : Str} (c : cCls x K = true) : Cls K (gAd x K) := by
  obtain ⟨c1, c⟩ := Bool.and_eq_true_iff.mp c
  obtain ⟨c2, c⟩ := Bool.and_eq_true_iff.mp c
  obtain ⟨c3, c4⟩ := Bool.and_eq_true_iff.mp c
  exact ⟨c1, c2, c3, of_decide_eq_true c4⟩
theorem meth_of {K : Fg} {x m : Str} (c : cMeth x m K = true) : Meth K (gAd x K) m (mAd x m K) := by
  obtain ⟨c1, c⟩ := Bool.and_eq_true_iff.mp c
  obtain ⟨c2, c3⟩ := Bool.and_eq_true_iff.mp c
  exact ⟨of_decide_eq_true c1, c2, c3⟩
theorem mk_of {K : Fg} {x : Str} (c : cMk x K = true) : Mk K (gAd x K) (mAd x "__init__" K) := by
  obtain ⟨c1, c⟩ := Bool.and_eq_true_iff.mp c
  obtain ⟨c2, c⟩ := Bool.and_eq_true_iff.mp c
  obtain ⟨c3, c4⟩ := Bool.and_eq_true_iff.mp c
  exact ⟨c1, of_decide_eq_true c2, c3, c4⟩
theorem prop_of {K : Fg} {x f : Str} (c : cProp x f K = true) : PropOf K (gAd x K) f (mAd x f K) (rAd "property" x f K) := by
  obtain ⟨c1, c⟩ := Bool.and_eq_true_iff.mp c
  obtain ⟨c2, c⟩ := Bool.and_eq_true_iff.mp c
  obtain ⟨c3, c4⟩ := Bool.and_eq_true_iff.mp c
  refine ⟨of_decide_eq_true c1, of_decide_eq_true c2, of_decide_eq_true c3, ?_⟩
  unfold rAd
  cases q : PySem.W.recIn K (mAd x f K) "property" with
  | none => rw [q] at c4; cases c4
  | some l =>
    rw [q] at c4
    cases l with
    | nil => cases c4
    | cons v r =>
      cases v with
      | ref g => exact ⟨r, rfl⟩
      | _ => cases c4
end WH
set_option Elab.async false
set_option linter.all false
set_option maxRecDepth 100000
set_option maxHeartbeats 4000000
/-! Rules of one's own: operators of own classes, great divisors, heaps that keep what is not meant to change, data. -/
namespace WB
open PySem PySem.Spec PyProof.Rows L2 WH
/-! numbers -/
def DivA (_ j : Int) : Prop := j ≠ 0 ∧ j.natAbs.log2 < 9000
theorem op_divA {X : Cx} : OpR X (binaryOp .FloorDiv) (rI DivA fun i j => .int (i.fdiv j)) := opI fun _ _ _ _ _ _ _ hc q => floordiv_int hc.1 q (.inl (PyProof.noPylong_of_log2 hc.2))
theorem divA {i j : Int} {n : Nat} (h0 : j ≠ 0) (h : j.natAbs < 2 ^ n) (hn : 0 < n ∧ n ≤ 9000) : DivA i j := ⟨h0, Nat.lt_of_lt_of_le (PySem.Flt.log2_lt_of hn.1 h) hn.2⟩
/-! the promise of a def that may raise or not -/
abbrev FnX (P : Program) (w : World) (K : Fg) (mg : Str → Option Value) (base : Heap) (k : Nat) (f : Addr) (fd : FuncData) (ps : List Str) (sp : Sp) : Prop := FnOk P w K mg base (L2.CX P w) k f fd ps sp
theorem CmpBack.of {Q : Value → Shared → Prop} {v : V} {u : Value} {s : Shared} (r : RelV v u) (q : Q u s) : PySem.W.CmpBack Q u s := by
  cases v <;> first | (obtain ⟨t, rfl⟩ := r; exact q) | (cases r; exact q)
section
variable {X : Cx} {C f : Addr} {fd : FuncData} {ps : List Str} {k : Nat} {sp : Sp}
/-- a def called by a sign: the values are handed over as they are -/
theorem run_sign {A : Around} {pins : List (Addr × Obj)} {σ : L2.St} {H : Hp} {s : Shared} {Q : VK} {us : List Value} {vs : List V} (F : FnX X.prog X.w X.K X.mg X.base k f fd ps sp) (hr : Room k A) (hfr : A.frames = X.A.frames) (hb : Binds X.K fd ps [])
    (I : Inv X pins σ H s) (r : Vals vs us) (h : sp vs H Q E0) : wpAny (model X.prog X.w) A (call (.ref f) us) (EP X pins σ Q) X.xe s := by
  have hl : (us ++ []).length = ps.length := by rw [List.append_nil, ← r.length]; exact F.len _ _ _ _ h
  have e0 : Env0 X.prog X.w X.K X.mg X.base A X.stack s H := by
    have e := I.env0
    exact ⟨by rw [hfr]; exact e.frames, e.mod, e.bs, e.bsz, e.funs, e.frf, e.hok, e.bare⟩
  refine wpAny_call (codeAny_mono (F.run A X.stack s H ⟨us, []⟩ us vs Q E0 hr e0 (by have := hb s us I.kIn hl; rwa [List.append_nil] at this) r h) fun r s' hq => ?_)
  cases r with
  | error e => exact passL pins σ H s e s' I hq
  | ok fl =>
    cases fl with
    | ret u => exact I.after hq
    | next => exact False.elim hq
    | brk => exact False.elim hq
    | cont => exact False.elim hq
/-- what an own class says of a two-place sign: its def, no reflected one -/
structure Sign (K : Fg) (C : Addr) (nm : String) (f : Addr) : Prop where
  first : PySem.W.selfFirst K C = true
  at_ : PySem.W.findIn K (.ref C) (PySem.dunder nm) = some (some (.ref f))
  fn : PySem.W.isFn K (.ref f) = true
  nor : PySem.W.findIn K (.ref C) (dunderR nm) = some none
  sub : PySem.W.subIn K (.type "int") (.ref C) = some false
/-- a op b, a of the own class at C, b such one or an int -/
def rSign (C : Addr) (sp : Sp) : R2 := fun x y H Q => (∃ a dx fs, x = .ref a ∧ H a = some (.ins C dx fs)) ∧ ((∃ b dy gs, y = .ref b ∧ H b = some (.ins C dy gs)) ∨ ∃ i, y = .int i) ∧ sp [x, y] H Q E0
theorem op_sign {op : Operator} (hi : (∃ t, PySem.W.findIn X.K (.type "int") (PySem.dunder op.info.2) = some t) ∧ ∃ t, PySem.W.findIn X.K (.type "int") (dunderR op.info.2) = some t) (S : Sign X.K C op.info.2 f)
    (F : FnX X.prog X.w X.K X.mg X.base k f fd ps sp) (hr : Room k X.A) (hb : Binds X.K fd ps []) : OpR X (binaryOp op) (rSign C sp) := by
  intro pins s σ H x y v u Q I rx ry ⟨⟨a, dx, fs, ex, ea⟩, hy, h⟩
  subst ex
  cases (show v = Value.ref a from rx)
  obtain ⟨mA, O, _⟩ := ins_get I.hok ea
  obtain ⟨od, J, _⟩ := O.look
  obtain ⟨m, fr⟩ := I.fr
  have hc : wpAny (model X.prog X.w) X.A (call (.ref f) [.ref a, u]) (PySem.W.CmpBack (EP X pins σ Q)) X.xe s :=
    wpAny_mono (run_sign F hr rfl hb I (.cons rx (.cons ry .nil)) h) (fun u' s' q => by
      obtain ⟨v', H', I', r', q'⟩ := q
      exact CmpBack.of (Q := EP X pins σ Q) r' ⟨v', H', I', r', q'⟩) fun _ _ z => z
  rcases hy with ⟨b, dy, gs, ey, eb⟩ | ⟨i, ey⟩
  · subst ey
    cases (show u = Value.ref b from ry)
    obtain ⟨mB, O', _⟩ := ins_get I.hok eb
    obtain ⟨od', J', _⟩ := O'.look
    exact PySem.W.binop_K fr I.ok.mod.kin J J'.type S.first S.at_ S.fn hc
  · subst ey
    obtain ⟨t, rfl⟩ := (show ∃ t, u = Value.int i t from ry)
    obtain ⟨⟨t1, h1⟩, t2, h2⟩ := hi
    exact PySem.W.ksp_binT fr I.ok.mod.kin J rfl S.first S.at_ S.fn S.nor (.inl rfl) h1 h2 S.sub hc
/-- -a -/
def rNeg (C : Addr) (sp : Sp) : V → Hp → VK → Prop := fun x H Q => (∃ a dx fs, x = .ref a ∧ H a = some (.ins C dx fs)) ∧ sp [x] H Q E0
theorem un_own (ha : PySem.W.findIn X.K (.ref C) "__neg__" = some (some (.ref f))) (hf : PySem.W.isFn X.K (.ref f) = true) (F : FnX X.prog X.w X.K X.mg X.base k f fd ps sp) (hr : Room k X.A) (hb : Binds X.K fd ps []) : UnR X (unaryOp .USub) (rNeg C sp) := by
  intro pins s σ H x v Q I rx ⟨⟨a, dx, fs, ex, ea⟩, h⟩
  subst ex
  cases (show v = Value.ref a from rx)
  obtain ⟨mA, O, _⟩ := ins_get I.hok ea
  obtain ⟨od, J, _⟩ := O.look
  obtain ⟨m, fr⟩ := I.fr
  exact PySem.W.ksp_neg fr I.ok.mod.kin J ha hf (run_sign F hr rfl hb I (.cons rx .nil) h)
end
end WB
namespace WB
open PySem PySem.Spec PyProof.Rows L2 WH
/-- a def of the module as its callers know it -/
structure Callee (P : Program) (w : World) (K : Fg) (mg : Str → Option Value) (base : Heap) (k : Nat) (x : Str) (ps : List Str) (sp : Sp) : Prop where
  ex : ∃ f fd, mg x = some (.ref f) ∧ PySem.W.keepIn K (.ref f) = true ∧ Binds K fd ps [] ∧ FnX P w K mg base k f fd ps sp
theorem pe_callee {X : Cx} {k : Nat} {x : Str} {ps : List Str} {sp : Sp} {p pos : Pos} {e : Expr} {es : List Expr} {t : TA} (c : Callee X.prog X.w X.K X.mg X.base k x ps sp) (hr : Room k X.A) (ha : PA X (e :: es) t) (hg : Gl X x := by rfl)
    (hdb : (x == ("__debug__" : Str)) = false := by decide) (he : starEach (e :: es) X.env = (false, eval e X.env) :: starEach es X.env := by rfl) (hpl : (backTo pos (starEach es X.env)).any (·.1) = false := by rfl) :
    PE X (.Call (.Name x p) (e :: es) [] pos) (tCall sp [] E0 t) := by
  obtain ⟨f, fd, h1, h2, h3, h4⟩ := c.ex
  exact pe_call h4 hr hg h1 h2 h3 .nil passL ha hdb he hpl
theorem Callee.of {P : Program} {w : World} {K : Fg} {mg : Str → Option Value} {base : Heap} {k : Nat} {x q : Str} {st : Stmt} {f : Addr} {fd : FuncData} {ps : List Str} {sp : Sp} (F : FnP K x q st [] f fd) (h : mg x = some (.ref f)) (b : Binds K fd ps []) (ok : FnX P w K mg base k f fd ps sp) :
    Callee P w K mg base k x ps sp := ⟨f, fd, h, F.kp, b, ok⟩
/-- made by its class's name, by position -/
structure Maker (P : Program) (w : World) (K : Fg) (mg : Str → Option Value) (base : Heap) (k : Nat) (x : Str) (C : Addr) (ps : List Str) (dvs : List V) (sp : Sp) : Prop where
  ex : ∃ f fd ds, mg x = some (.ref C) ∧ Mk K C f ∧ Binds K fd ps ds ∧ Vals dvs ds ∧ FnX P w K mg base k f fd ps sp
theorem pe_maker {X : Cx} {k : Nat} {x : Str} {C : Addr} {ps : List Str} {dvs : List V} {sp : Sp} {E : XK} {p pos : Pos} {e : Expr} {es : List Expr} {t : TA} (c : Maker X.prog X.w X.K X.mg X.base k x C ps dvs sp) (hr : Room (k + 1) X.A) (hx : Passes (L2.CX X.prog X.w) X E) (ha : PA X (e :: es) t) (hg : Gl X x := by rfl)
    (hdb : (x == ("__debug__" : Str)) = false := by decide) (he : starEach (e :: es) X.env = (false, eval e X.env) :: starEach es X.env := by rfl) (hpl : (backTo pos (starEach es X.env)).any (·.1) = false := by rfl) :
    PE X (.Call (.Name x p) (e :: es) [] pos) (tMake C sp dvs E t) := by
  obtain ⟨f, fd, ds, h1, h2, h3, h5, h4⟩ := c.ex
  exact pe_make h2 h4 hr hg h1 h3 h5 hx ha hdb he hpl
/-! heaps -/
def Ex (H H' : Hp) : Prop := ∀ a o, H a = some o → H' a = some o
theorem Ex.rfl {H : Hp} : Ex H H := fun _ _ h => h
theorem Ex.trans {H H1 H2 : Hp} (a : Ex H H1) (b : Ex H1 H2) : Ex H H2 := fun x o h => b x o (a x o h)
theorem Ex.new {H : Hp} {p : Addr} {o : HO} (h : H p = none) : Ex H (upd H p o) := fun a u e => by
  rw [upd_ne (ne_of_none e h)]; exact e
theorem Ex.free {H H' : Hp} {p : Addr} (e : Ex H H') (h : H' p = none) : H p = none := by
  cases q : H p with
  | none => rfl
  | some o => rw [e p o q] at h; cases h
/-- what is new may be changed -/
theorem Ex.mut {H H' : Hp} {p : Addr} {o : HO} (e : Ex H H') (h : H p = none) : Ex H (upd H' p o) := fun a u q => by
  rw [upd_ne (ne_of_none q h)]; exact e a u q
/-! quotients -/
def ratF (q : Rat) : List (Str × V) := [("_top", .int q.num), ("_bottom", .int q.den)]
def RatAt (C : Addr) (H : Hp) (a : Addr) (q : Rat) : Prop := ∃ dx, H a = some (.ins C dx (ratF q))
def NumAt (C : Addr) (H : Hp) (v : V) (q : Rat) : Prop := (∃ i : Int, v = .int i ∧ q = (i : Rat)) ∨ ∃ a, v = .ref a ∧ RatAt C H a q
theorem RatAt.ex {C : Addr} {H H' : Hp} {a : Addr} {q : Rat} (r : RatAt C H a q) (e : Ex H H') : RatAt C H' a q := r.elim fun dx h => ⟨dx, e _ _ h⟩
theorem NumAt.ex {C : Addr} {H H' : Hp} {v : V} {q : Rat} (r : NumAt C H v q) (e : Ex H H') : NumAt C H' v q := r.elim .inl fun ⟨a, h, g⟩ => .inr ⟨a, h, g.ex e⟩
theorem RatAt.num {C : Addr} {H : Hp} {a : Addr} {q : Rat} (r : RatAt C H a q) : NumAt C H (.ref a) q := .inr ⟨a, rfl, r⟩
theorem RatAt.inj {C : Addr} {H : Hp} {a : Addr} {q r : Rat} (h : RatAt C H a q) (g : RatAt C H a r) : q = r := by
  obtain ⟨dx, h⟩ := h
  obtain ⟨dy, g⟩ := g
  rw [h] at g
  have e := congrArg (fun o => match o with | some (HO.ins _ _ fs) => fs | _ => []) g
  have e2 : ratF q = ratF r := e
  unfold ratF at e2
  simp only [List.cons.injEq, Prod.mk.injEq, V.int.injEq, true_and, and_true] at e2
  exact Rat.ext e2.1 (by omega)
/-- not too long -/
def Sz (n : Nat) (q : Rat) : Prop := q.num.natAbs < 2 ^ n ∧ q.den < 2 ^ n
theorem Sz.mono {n m : Nat} {q : Rat} (h : Sz n q) (l : n ≤ m) : Sz m q := ⟨Nat.lt_of_lt_of_le h.1 (Nat.pow_le_pow_right (by decide) l), Nat.lt_of_lt_of_le h.2 (Nat.pow_le_pow_right (by decide) l)⟩
/-- a new quotient is handed back -/
def RetRat (C : Addr) (H : Hp) (Q : VK) (q : Rat) : Prop := ∀ p H', H p = none → Ex H H' → RatAt C H' p q → Q (.ref p) H'
/-! kinds -/
/-- a truth -/
def isB : V → Bool
  | .bl _ => true
  | _ => false
theorem isB_no {x : V} (h : isB x = false) (b : Bool) : decide (x = .bl b) = false := decide_eq_false (by rintro rfl; cases h)
/-- is it an integer, is it of the class at C -/
structure TyN (K : Fg) (C : Addr) (H : Hp) (x : V) (wh rt : Bool) : Prop where
  ex : ∃ t bi, TyX K H x t ∧ PySem.W.kitOne K t (.type "int") = some bi ∧ wh = (bi && !isB x) ∧ PySem.W.kitOne K t (.ref C) = some rt
/-- the promises of two kinds of calls together -/
theorem FnX.or {P : Program} {w : World} {K : Fg} {mg : Str → Option Value} {base : Heap} {j k : Nat} {f : Addr} {fd : FuncData} {ps : List Str} {sp sp' : Sp} (F : FnX P w K mg base j f fd ps sp) (G : FnX P w K mg base k f fd ps sp') :
    FnX P w K mg base (max j k) f fd ps (fun vs H Q E => sp vs H Q E ∨ sp' vs H Q E) :=
  ⟨fun vs H Q E q => q.elim (F.len vs H Q E) (G.len vs H Q E), fun A outer s H args us vs Q E hr he hb hv hs => hs.elim (F.run A outer s H args us vs Q E (hr.mono (Nat.le_max_left ..)) he hb hv) (G.run A outer s H args us vs Q E (hr.mono (Nat.le_max_right ..)) he hb hv)⟩
end WB
namespace WB
open PySem PySem.Spec PyProof.Rows L2 WH
/-- a property as its readers know it -/
structure Getter (P : Program) (w : World) (K : Fg) (mg : Str → Option Value) (base : Heap) (k : Nat) (C : Addr) (f : Str) (sp : Sp) : Prop where
  ex : ∃ p g fd, Cls K C ∧ PropOf K C f p g ∧ Binds K fd ["self"] [] ∧ FnX P w K mg base k g fd ["self"] sp
theorem pe_getter {X : Cx} {k : Nat} {C : Addr} {f : Str} {sp : Sp} {e : Expr} {ta : TE} {pos : Pos} (g : Getter X.prog X.w X.K X.mg X.base k C f sp) (hr : Room (k + 1) X.A) (he : PE X e ta) (hab : attributeBase e f X.env (eval e X.env) = eval e X.env := by rfl) :
    PE X (.Attribute e f pos) (tProp C sp [] E0 ta) := by
  obtain ⟨p, g', fd, c, hp, hb, F⟩ := g.ex
  exact pe_prop he c hp F hr hb .nil passL hab
/-- a method as its callers know it -/
structure Mthd (P : Program) (w : World) (K : Fg) (mg : Str → Option Value) (base : Heap) (k : Nat) (C : Addr) (m : Str) (ps : List Str) (sp : Sp) : Prop where
  ex : ∃ f fd, Cls K C ∧ Meth K C m f ∧ Binds K fd ps [] ∧ FnX P w K mg base k f fd ps sp
/-- a two-place sign of an own class -/
structure SignOk (P : Program) (w : World) (K : Fg) (mg : Str → Option Value) (base : Heap) (k : Nat) (C : Addr) (nm : String) (sp : Sp) : Prop where
  ex : ∃ f fd ps, Sign K C nm f ∧ Binds K fd ps [] ∧ FnX P w K mg base k f fd ps sp
theorem intAdd {K : Fg} : (∃ t, PySem.W.findIn K (.type "int") (PySem.dunder Operator.Add.info.2) = some t) ∧ ∃ t, PySem.W.findIn K (.type "int") (dunderR Operator.Add.info.2) = some t := ⟨⟨_, rfl⟩, ⟨_, rfl⟩⟩
theorem intSub {K : Fg} : (∃ t, PySem.W.findIn K (.type "int") (PySem.dunder Operator.Sub.info.2) = some t) ∧ ∃ t, PySem.W.findIn K (.type "int") (dunderR Operator.Sub.info.2) = some t := ⟨⟨_, rfl⟩, ⟨_, rfl⟩⟩
theorem intMul {K : Fg} : (∃ t, PySem.W.findIn K (.type "int") (PySem.dunder Operator.Mult.info.2) = some t) ∧ ∃ t, PySem.W.findIn K (.type "int") (dunderR Operator.Mult.info.2) = some t := ⟨⟨_, rfl⟩, ⟨_, rfl⟩⟩
section
variable {X : Cx} {k : Nat} {C : Addr} {sp : Sp}
theorem op_ownAdd (s : SignOk X.prog X.w X.K X.mg X.base k C Operator.Add.info.2 sp) (hr : Room k X.A) : OpR X (binaryOp .Add) (rSign C sp) := by
  obtain ⟨f, fd, ps, S, b, F⟩ := s.ex
  exact op_sign intAdd S F hr b
theorem op_ownSub (s : SignOk X.prog X.w X.K X.mg X.base k C Operator.Sub.info.2 sp) (hr : Room k X.A) : OpR X (binaryOp .Sub) (rSign C sp) := by
  obtain ⟨f, fd, ps, S, b, F⟩ := s.ex
  exact op_sign intSub S F hr b
theorem op_ownMul (s : SignOk X.prog X.w X.K X.mg X.base k C Operator.Mult.info.2 sp) (hr : Room k X.A) : OpR X (binaryOp .Mult) (rSign C sp) := by
  obtain ⟨f, fd, ps, S, b, F⟩ := s.ex
  exact op_sign intMul S F hr b
end
/-- -x of an own class -/
structure NegOk (P : Program) (w : World) (K : Fg) (mg : Str → Option Value) (base : Heap) (k : Nat) (C : Addr) (sp : Sp) : Prop where
  ex : ∃ f fd ps, PySem.W.findIn K (.ref C) "__neg__" = some (some (.ref f)) ∧ PySem.W.isFn K (.ref f) = true ∧ Binds K fd ps [] ∧ FnX P w K mg base k f fd ps sp
theorem un_ownNeg {X : Cx} {k : Nat} {C : Addr} {sp : Sp} (s : NegOk X.prog X.w X.K X.mg X.base k C sp) (hr : Room k X.A) : UnR X (unaryOp .USub) (rNeg C sp) := by
  obtain ⟨f, fd, ps, h1, h2, b, F⟩ := s.ex
  exact un_own h1 h2 F hr b
end WB
set_option Elab.async false
set_option linter.all false
set_option maxRecDepth 100000
set_option maxHeartbeats 4000000
/-! == and != of own classes; lcm, repr of a truth; an own exception without arguments -/
namespace WB
open PySem PySem.Spec PyProof.Rows L2 WH
/-! ### great common multiples, the text of a truth -/
theorem call_lcm {X : Cx} : CallR X (.builtin "math.lcm") (fun xs H Q => ∃ a b : Int, xs = [.int a, .int b] ∧ a.natAbs < 2 ^ 6000 ∧ b.natAbs < 2 ^ 6000 ∧ Q (.int ((Nat.lcm a.natAbs b.natAbs : Nat) : Int)) H) := by
  intro pins s σ H xs us Q I r h
  obtain ⟨a, b, rfl, ha, hb, q⟩ := h
  obtain ⟨t, u, rfl⟩ := Vals.int2 r
  have lg : ∀ n : Nat, n < 2 ^ 6000 → n.log2 < 6000 := fun n h => by
    by_cases z : n = 0
    · subst z; decide
    · exact (Nat.log2_lt z).mpr h
  have h1 : (max 1 a.natAbs).log2 < 6000 := lg _ (Nat.max_lt.mpr ⟨by decide, ha⟩)
  have h2 : (max a.natAbs b.natAbs).log2 < 6000 := lg _ (Nat.max_lt.mpr ⟨ha, hb⟩)
  have e : Nat.lcm 1 a.natAbs = a.natAbs := by simp [Nat.lcm]
  have h3 : (((((Nat.lcm 1 a.natAbs).lcm b.natAbs : Nat) : Int)).natAbs).log2 < bitsLine := by
    rw [e]
    have l : a.natAbs.lcm b.natAbs ≤ a.natAbs * b.natAbs := Nat.div_le_self ..
    have m : a.natAbs * b.natAbs < 2 ^ 12000 := by
      rw [show 12000 = 6000 + 6000 from rfl, Nat.pow_add]
      exact Nat.mul_lt_mul'' ha hb
    have n : (a.natAbs.lcm b.natAbs).log2 < 12000 := by
      by_cases z : a.natAbs.lcm b.natAbs = 0
      · rw [z]; decide
      · exact (Nat.log2_lt z).mpr (Nat.lt_of_le_of_lt l m)
    have eb : bitsLine = 134217728 := by decide
    rw [eb, Int.natAbs_natCast]
    omega
  have g := PySem.W.mg_run_lcm a t b u (by omega) (by omega) h3
  rw [e] at g
  exact call_function_meets PySem.W.MGF.kind_lcm PySem.W.MGF.plain_lcm PySem.W.MGF.entry_lcm (PySem.W.MGF.args_lcm _ _) g.meets ⟨.int _, H, I.tok _, ⟨_, rfl⟩, q⟩
def tfS (b : Bool) : Str := if b then "True" else "False"
theorem call_repr_bl {X : Cx} : CallR X (.builtin "repr") (fun xs H Q => ∃ b, xs = [.bl b] ∧ Q (.str (tfS b)) H) := by
  intro pins s σ H xs us Q I r h
  obtain ⟨b, rfl, q⟩ := h
  obtain ⟨u, rfl, ru⟩ := vals1 r
  cases (show u = Value.bool b from ru)
  exact PySem.P.repr_of_bool ⟨.str (tfS b), H, I.tok _, ⟨_, rfl⟩, q⟩
/-! ### X() -/
theorem pmk_own0 {X : Cx} {C : Addr} {bmB : List Value} {B newId initId : String} {x : Str} {p pos : Pos} (F : ExcBaseFacts B newId initId bmB) (q : PySem.W.excIn X.K C bmB newId = true) (gC : X.mg x = some (.ref C)) (kC : PySem.W.keepIn X.K (.ref C) = true)
    (r : Raises X (.ref C)) (hg : Gl X x) (hdb : (x == ("__debug__" : Str)) = false := by decide) : PMk X (.Call (.Name x p) [] [] pos) (fun _ H Q => Q (.ref C) none H) := by
  intro pins s σ H Q I h
  refine wpAny_Call_Name_kw (ld_glob I hg gC ?_ hdb)
  refine PySem.W.callWith_K0 I.kIn kC ?_
  obtain ⟨bm, N, nm, qn, bs, hdct, sn, sub, ab, col, dd, k0, k1, k2, k3, k5, mN, hC, hN, hni, T⟩ := exc_obj I.kIn q
  refine wpAny_call_exc_subT F T hC hN hni (fun h' e hm => ?_) (Nat.zero_le _)
  exact mk_of I hm r h (I.hok.gone hm.new)
/-! ### own == and != -/
/-- a value whose type is the built-in n -/
theorem looks_ty {X : Cx} {pins : List (Addr × Obj)} {σ : L2.St} {H : Hp} {s : Shared} {M : Model} {x : V} {u : Value} {n : String} (I : Inv X pins σ H s) (rx : RelV x u) (ty : TyX X.K H x (.type n)) : PySem.W.Looks M s.heap (typeOf u) (.type n) := by
  have at_ : ∀ {a : Addr} {o : Obj}, s.heap.get? a = some o → o.cls = .type n → PySem.W.Looks M s.heap (typeOf (.ref a)) (.type n) := fun h hc A Q E s k q => wpAny_typeOf_ref (k _ _ h) (by rw [hc]; exact q)
  cases ty with
  | base b =>
    cases b with
    | non => cases (show u = Value.none from rx); exact .of_pure rfl
    | bl y => cases (show u = Value.bool y from rx); exact .of_pure rfl
    | int i => obtain ⟨t, q⟩ := (show ∃ t, u = Value.int i t from rx); cases q; exact .of_pure rfl
    | str y => obtain ⟨t, q⟩ := (show ∃ t, u = Value.str y t from rx); cases q; exact .of_pure rfl
    | flt y => obtain ⟨t, q⟩ := (show ∃ t, u = Value.float y t from rx); cases q; exact .of_pure rfl
    | lst ea =>
      cases (show u = _ from rx)
      obtain ⟨_, _, n, _, h1⟩ := (show ObjOk X.prog X.w H s.heap _ (.lst _) from I.hok _ _ ea)
      exact at_ h1 rfl
    | frz ea =>
      cases (show u = _ from rx)
      obtain ⟨_, _, _, n, _, h1⟩ := (show ObjOk X.prog X.w H s.heap _ (.frz _ (.lst _)) from I.hok _ _ ea)
      exact at_ h1 rfl
    | tup ea =>
      cases (show u = _ from rx)
      obtain ⟨_, _, _, o, h1, h2, _⟩ := (show ObjOk X.prog X.w H s.heap _ (.tup _) from I.hok _ _ ea)
      exact at_ h1 h2
    | dK ea =>
      cases (show u = _ from rx)
      obtain ⟨_, _, vs, _, o, es, ep, h1, h2, _⟩ := (show ObjOk X.prog X.w H s.heap _ (.dK _) from I.hok _ _ ea)
      exact at_ h1 h2.1
    | dT ea =>
      cases (show u = _ from rx)
      obtain ⟨_, _, xs, _, o, es, ep, h1, h2, _⟩ := (show ObjOk X.prog X.w H s.heap _ (.dT _) from I.hok _ _ ea)
      exact at_ h1 h2.1
  | byt y => obtain ⟨t, q⟩ := (show ∃ t, u = Value.bytes y t from rx); cases q; exact .of_pure rfl
  | set ea =>
    cases (show u = _ from rx)
    obtain ⟨o, _, _, _, e, ex, _⟩ := I.hok _ _ ea
    exact at_ e ex.1
  | kList e c => cases (show u = _ from rx); exact at_ (I.kIn _ _ e) c
  | kTuple e c => cases (show u = _ from rx); exact at_ (I.kIn _ _ e) c
  | kDict e c => cases (show u = _ from rx); exact at_ (I.kIn _ _ e) c
  | fTuple ea =>
    cases (show u = _ from rx)
    obtain ⟨_, _, _, _, o, h1, h2, _⟩ := (show ObjOk X.prog X.w H s.heap _ (.frz _ (.tup _)) from I.hok _ _ ea)
    exact at_ h1 h2
  | fDict ea =>
    cases (show u = _ from rx)
    obtain ⟨_, _, _, vs, _, o, es, ep, h1, h2, _⟩ := (show ObjOk X.prog X.w H s.heap _ (.frz _ (.dK _)) from I.hok _ _ ea)
    exact at_ h1 h2.1
/-- the right side of an own == : one of the class at C, or of a built-in type -/
def Right (K : Fg) (C : Addr) (H : Hp) (y : V) : Prop := (∃ b dy gs, y = .ref b ∧ H b = some (.ins C dy gs)) ∨ ∃ n, TyX K H y (.type n) ∧ PySem.W.subIn K (.type n) (.ref C) = some false
def rOwnEq (K : Fg) (C : Addr) (sp : Sp) : R2 := fun x y H Q => (∃ a dx fs, x = .ref a ∧ H a = some (.ins C dx fs)) ∧ Right K C H y ∧ sp [x, y] H Q E0
def rOwnNe (K : Fg) (C : Addr) (sp : Sp) : R2 := fun x y H Q => (∃ a dx fs, x = .ref a ∧ H a = some (.ins C dx fs)) ∧ Right K C H y ∧ sp [x, y] H (fun v H' => ∃ b, v = .bl b ∧ Q (.bl (!b)) H') E0
/-- what the written part says of the class's == -/
structure EqOk (P : Program) (w : World) (K : Fg) (mg : Str → Option Value) (base : Heap) (k : Nat) (C : Addr) (sp : Sp) : Prop where
  ex : ∃ f fd ps, PySem.W.findIn K (.ref C) "__eq__" = some (some (.ref f)) ∧ PySem.W.isFn K (.ref f) = true ∧ Binds K fd ps [] ∧ FnX P w K mg base k f fd ps sp
  ne : PySem.W.findIn K (.ref C) "__ne__" = some (some (.builtin "object.__ne__"))
  ob : PySem.W.subIn K (.ref C) (.type "object") = some true
section
variable {X : Cx} {k : Nat} {C : Addr} {sp : Sp}
theorem right_ty {pins : List (Addr × Obj)} {σ : L2.St} {H : Hp} {s : Shared} {y : V} {u : Value} {M : Model} (I : Inv X pins σ H s) (ry : RelV y u) (h : Right X.K C H y) : ∃ tb, PySem.W.Looks M s.heap (typeOf u) tb ∧ PySem.W.notFirst X.K C tb = true := by
  rcases h with ⟨b, dy, gs, rfl, eb⟩ | ⟨n, ty, hs⟩
  · cases (show u = Value.ref b from ry)
    obtain ⟨mB, O', _⟩ := ins_get I.hok eb
    obtain ⟨od', J', _⟩ := O'.look
    exact ⟨.ref C, J'.type, by simp [PySem.W.notFirst]⟩
  · exact ⟨.type n, looks_ty I ry ty, by simp [PySem.W.notFirst, hs]⟩
theorem op_ownEq (e : EqOk X.prog X.w X.K X.mg X.base k C sp) (hr : Room k X.A) : OpR X (compareOp .Eq) (rOwnEq X.K C sp) := by
  intro pins s σ H x y v u Q I rx ry ⟨⟨a, dx, fs, ex, ea⟩, hy, h⟩
  subst ex
  cases (show v = Value.ref a from rx)
  obtain ⟨f, fd, ps, h1, h2, b, F⟩ := e.ex
  obtain ⟨mA, O, _⟩ := ins_get I.hok ea
  obtain ⟨od, J, _⟩ := O.look
  obtain ⟨m, fr⟩ := I.fr
  obtain ⟨tb, L, n⟩ := right_ty (M := model X.prog X.w) I ry hy
  show wpAny _ _ (richCompare .Eq (.ref a) u) _ _ _
  refine PySem.W.cmp_K hr.units0 fr I.ok.mod.kin J L n h1 h2 (wpAny_mono (run_sign F hr rfl b I (.cons rx (.cons ry .nil)) h) (fun u' s' q => ?_) fun _ _ z => z)
  obtain ⟨v', H', I', r', q'⟩ := q
  exact CmpBack.of (Q := EP X pins σ Q) r' ⟨v', H', I', r', q'⟩
/-- object.__ne__ by the own == -/
theorem call_ne {A : Around} {pins : List (Addr × Obj)} {σ : L2.St} {H : Hp} {s : Shared} {a : Addr} {dx : Addr} {fs : List (Str × V)} {y : V} {u : Value} {Q : VK} (e : EqOk X.prog X.w X.K X.mg X.base k C sp) (hr : Room (k + 1) A) (hfr : A.frames = X.A.frames) (I : Inv X pins σ H s)
    (ea : H a = some (.ins C dx fs)) (ry : RelV y u) (h : sp [.ref a, y] H (fun v H' => ∃ b, v = .bl b ∧ Q (.bl (!b)) H') E0) :
    wpAny (model X.prog X.w) A (call (.builtin "object.__ne__") [.ref a, u]) (EP X pins σ Q) X.xe s := by
  obtain ⟨f, fd, ps, h1, h2, b, F⟩ := e.ex
  obtain ⟨mA, O, _⟩ := ins_get I.hok ea
  obtain ⟨od, J, _⟩ := O.look
  have sub : PySem.W.Looks (model X.prog X.w) s.heap (isInstance (.ref a) (.type "object")) true := J.type.andThen (PySem.W.looks_subIn I.kIn e.ob)
  refine wpAny_call (codeAny_call_builtin PySem.F.cmp_object.ne.plain PySem.F.cmpEntry_ne (@PySem.W.check_slot (model X.prog X.w) _ _ s "object.__ne__" "object" "__ne__" (.ref a) [u] [] _ PySem.F.cmpKind_ne PySem.F.cmpSplit_ne sub (PySem.F.cmpArgs_ne _ _) ?_))
  have go := run_sign (A := A.in1) F hr.in1 hfr b I (.cons (show RelV (.ref a) (.ref a) from rfl) (.cons ry .nil)) h
  have hu : A.in1.units < cLine := hr.in1.units0
  unfold Builtin.«object.__ne__»
  repeat (first | with_reducible refine wpAny_cRoomFor hu ?_ | with_reducible refine PySem.W.ifBound_K I.kIn J h1 h2 (wpAny_mono go (fun u' s' q => ?_) fun _ _ z => z) | wp_step)
  obtain ⟨v', H', I', r', r, ev, q'⟩ := q
  subst ev
  cases (show u' = Value.bool r from r')
  dsimp only
  refine wpAny_bind (wpAny_truthy_bool (wpAny_pure ?_))
  exact ⟨.bl (!r), H', I', rfl, q'⟩
theorem op_ownNe (e : EqOk X.prog X.w X.K X.mg X.base k C sp) (hr : Room (k + 1) X.A) : OpR X (compareOp .NotEq) (rOwnNe X.K C sp) := by
  intro pins s σ H x y v u Q I rx ry ⟨⟨a, dx, fs, ex, ea⟩, hy, h⟩
  subst ex
  cases (show v = Value.ref a from rx)
  obtain ⟨mA, O, _⟩ := ins_get I.hok ea
  obtain ⟨od, J, _⟩ := O.look
  obtain ⟨m, fr⟩ := I.fr
  obtain ⟨tb, L, hn⟩ := right_ty (M := model X.prog X.w) I ry hy
  have go := call_ne e hr rfl I ea ry h
  have X' := I.kIn
  have one : wpAny (model X.prog X.w) X.A (tryCompare (.ref a) "__ne__" u) (fun r s' => ∃ v, r = some v ∧ EP X pins σ Q v s') X.xe s := by
    unfold tryCompare
    simp only [callSpecialIfBound?, bindSpecialIfBound?]
    refine wpAny_bind (wpAny_holding (wpAny_bind (wpAny_bind (wpAny_bind (J.type.here ((PySem.W.looks_findIn X' e.ne).here ?_))))))
    simp only [PySem.F.cmp_object.ne.bind]
    have back : ∀ v s', EP X pins σ Q v s' → wpAny (model X.prog X.w) X.A (match some v with
        | some Value.notImplemented | none => pure none
        | some z => pure (some z)) (fun r s' => ∃ v, r = some v ∧ EP X pins σ Q v s') X.xe s' := fun v s' w => by
      obtain ⟨z, H', I', r', q'⟩ := id w
      cases z <;> first | (obtain ⟨t, rfl⟩ := r'; exact wpAny_pure ⟨_, rfl, w⟩) | (cases r'; exact wpAny_pure ⟨_, rfl, w⟩)
    refine wpAny_bind (wpAny_askSetting (wpAny_ite ?_))
    split
    · exact wpAny_bind (wpAny_pure (wpAny_pure (wpAny_bind (wpAny_mono go (fun v s' hv => wpAny_pure (back v s' hv)) fun _ _ z => z))))
    · exact wpAny_tryCatch (wpAny_bind (wpAny_pure (wpAny_pure (wpAny_bind (wpAny_mono go (fun v s' hv => wpAny_pure (back v s' hv)) fun _ _ z => z)))))
  show wpAny _ _ (richCompare .NotEq (.ref a) u) _ _ _
  unfold richCompare
  simp only [oneThing_ref]
  refine wpAny_holding (wpAny_bind (wpAny_cRoomFor hr.units0 (wpAny_bind (J.type.here (wpAny_bind (L.here ?_))))))
  split
  · rename_i ne
    have no : PySem.W.subIn X.K tb (.ref C) = some false := by
      rcases Bool.or_eq_true_iff.mp (show ((tb == .ref C) || (PySem.W.subIn X.K tb (.ref C) == some false)) = true from hn) with z | z
      · rw [beq_iff_eq.mp z] at ne; simp at ne
      · exact beq_iff_eq.mp z
    refine wpAny_bind ((PySem.W.looks_subIn X' no).here ?_)
    simp only [Bool.false_eq_true, if_false]
    refine wpAny_bind (wpAny_mono one (fun r s' z => ?_) fun _ _ z => z)
    obtain ⟨r0, er, ep⟩ := z
    subst er
    exact wpAny_pure ep
  · refine wpAny_bind (wpAny_pure ?_)
    simp only [Bool.false_eq_true, if_false]
    refine wpAny_bind (wpAny_mono one (fun r s' z => ?_) fun _ _ z => z)
    obtain ⟨r0, er, ep⟩ := z
    subst er
    exact wpAny_pure ep
end
end WB
namespace WB
open PySem PySem.Spec PyProof.Rows L2 WH
/-- an exception class without an __init__ of its own -/
structure ExcC (K : Fg) (mg : Str → Option Value) (x : Str) (C : Addr) : Prop where
  g : mg x = some (.ref C)
  ex : PySem.W.excIn K C [.type "ValueError", .type "Exception", .type "BaseException", .type "object"] "ValueError.__new__" = true
  kp : PySem.W.keepIn K (.ref C) = true
  sb : PySem.W.subIn K (.ref C) (.type "BaseException") = some true
  ty : PySem.W.typeIn K (.ref C) = some (.type "type")
theorem ps_raise0 {X : Cx} {W : WX} {x : Str} {C : Addr} {p pos pos' : Pos} (e : ExcC X.K X.mg x C) (tk : Takes X W) (hc : X.calm = true := by rfl) (hg : Gl X x := by rfl) (hdb : (x == ("__debug__" : Str)) = false := by decide) :
    PS X (.Raise (some (.Call (.Name x p) [] [] pos)) none pos') (fun _ σ H => W (.ref C) none σ H) :=
  ps_raise hc tk (pmk_own0 PySem.F.excBase_ValueError e.ex e.g e.kp (raises_own e.sb e.ty) hg hdb)
end WB
set_option Elab.async false
set_option linter.all false
/-! Quotients in lowest terms. -/
namespace WM
theorem gcd_int (n d : Int) : Nat.gcd n.natAbs d.natAbs = Int.gcd d n := by rw [Int.gcd_comm]; rfl
theorem fdiv_num (n d : Int) (hd : d ≠ 0) (c : Int) (hc : c = if d < 0 then -((Nat.gcd n.natAbs d.natAbs : Nat) : Int) else ((Nat.gcd n.natAbs d.natAbs : Nat) : Int)) : n.fdiv c = (Rat.divInt n d).num := by
  rw [Rat.num_divInt, hc, gcd_int]
  have hg : (Int.gcd d n : Int) ∣ n := Int.gcd_dvd_right ..
  by_cases h : d < 0
  · rw [if_pos h, Int.sign_eq_neg_one_of_neg h, Int.fdiv_eq_ediv_of_dvd (Int.neg_dvd.mpr hg), Int.ediv_neg, Int.neg_one_mul, Int.neg_ediv_of_dvd hg]
  · rw [if_neg h, Int.sign_eq_one_of_pos (by omega), Int.fdiv_eq_ediv_of_dvd hg, Int.one_mul]
theorem fdiv_den (n d : Int) (hd : d ≠ 0) (c : Int) (hc : c = if d < 0 then -((Nat.gcd n.natAbs d.natAbs : Nat) : Int) else ((Nat.gcd n.natAbs d.natAbs : Nat) : Int)) : d.fdiv c = ((Rat.divInt n d).den : Int) := by
  rw [Rat.den_divInt, if_neg hd, hc, gcd_int]
  have hg : (Int.gcd d n : Int) ∣ d := Int.gcd_dvd_left ..
  by_cases h : d < 0
  · have e : d = -((d.natAbs : Nat) : Int) := by omega
    rw [if_pos h, Int.fdiv_eq_ediv_of_dvd (Int.neg_dvd.mpr hg), Int.ediv_neg, ← Int.neg_ediv_of_dvd hg, Int.natCast_ediv, show ((d.natAbs : Nat) : Int) = -d by omega]
  · rw [if_neg h, Int.fdiv_eq_ediv_of_dvd hg, Int.natCast_ediv, show ((d.natAbs : Nat) : Int) = d by omega]
theorem gcd_ne (n d : Int) (hd : d ≠ 0) : ((Nat.gcd n.natAbs d.natAbs : Nat) : Int) ≠ 0 := by
  have : 0 < Nat.gcd n.natAbs d.natAbs := Nat.gcd_pos_of_pos_right _ (by omega)
  omega
theorem gcd_le (n d : Int) (hd : d ≠ 0) : Nat.gcd n.natAbs d.natAbs ≤ d.natAbs := Nat.le_of_dvd (by omega) (Nat.gcd_dvd_right ..)
theorem num_le (n d : Int) (hd : d ≠ 0) : (Rat.divInt n d).num.natAbs ≤ n.natAbs := by
  rw [Rat.num_divInt, gcd_int n d |>.symm]
  refine Nat.le_trans (Int.natAbs_ediv_le_natAbs _ _) ?_
  rw [Int.natAbs_mul, Int.natAbs_sign_of_ne_zero hd, Nat.one_mul]
  exact Nat.le_refl _
theorem den_le (n d : Int) (hd : d ≠ 0) : (Rat.divInt n d).den ≤ d.natAbs := by
  rw [Rat.den_divInt, if_neg hd]
  exact Nat.div_le_self ..
theorem add_eq (q r : Rat) : Rat.divInt (q.num * r.den + r.num * q.den) (q.den * r.den) = q + r := by
  have h := Rat.divInt_add_divInt q.num r.num (d₁ := (q.den : Int)) (d₂ := (r.den : Int)) (by have := q.den_nz; omega) (by have := r.den_nz; omega)
  rw [Rat.num_divInt_den, Rat.num_divInt_den] at h
  exact h.symm
theorem sub_eq (q r : Rat) : Rat.divInt (q.num * r.den - r.num * q.den) (q.den * r.den) = q - r := by
  have h := Rat.divInt_sub_divInt q.num r.num (d₁ := (q.den : Int)) (d₂ := (r.den : Int)) (by have := q.den_nz; omega) (by have := r.den_nz; omega)
  rw [Rat.num_divInt_den, Rat.num_divInt_den] at h
  exact h.symm
theorem mul_eq (q r : Rat) : Rat.divInt (q.num * r.num) (q.den * r.den) = q * r := by
  have h := Rat.divInt_mul_divInt q.num r.num (d₁ := (q.den : Int)) (d₂ := (r.den : Int))
  rw [Rat.num_divInt_den, Rat.num_divInt_den] at h
  exact h.symm
theorem neg_eq (q : Rat) : Rat.divInt (-q.num) q.den = -q := by
  rw [← Rat.neg_divInt, Rat.num_divInt_den]
theorem over_eq (q r : Rat) : Rat.divInt (q.num * r.den) (q.den * r.num) = q / r := by
  have h := Rat.divInt_mul_divInt q.num r.den (d₁ := (q.den : Int)) (d₂ := r.num)
  rw [Rat.num_divInt_den, ← Rat.inv_divInt, Rat.num_divInt_den] at h
  rw [Rat.div_def]
  exact h.symm
theorem den_pos (q : Rat) : (0 : Int) < q.den := by have := q.den_pos; omega
theorem int_eq (i : Int) : Rat.divInt i 1 = (i : Rat) := by
  have h := Rat.num_divInt_den (i : Rat)
  rwa [Rat.num_intCast, Rat.den_intCast] at h
end WM
namespace WM
/-! sums over a common bottom -/
def lcmL (qs : List Rat) : Nat := qs.foldl (fun l q => Nat.lcm l q.den) 1
theorem lcmL_more (qs : List Rat) (q : Rat) : lcmL (qs ++ [q]) = Nat.lcm (lcmL qs) q.den := by unfold lcmL; rw [List.foldl_append]; rfl
theorem foldl_dvd (qs : List Rat) : ∀ l : Nat, l ∣ qs.foldl (fun l q => Nat.lcm l q.den) l ∧ ∀ q ∈ qs, q.den ∣ qs.foldl (fun l q => Nat.lcm l q.den) l := by
  induction qs with
  | nil => intro l; exact ⟨Nat.dvd_refl _, fun q h => by cases h⟩
  | cons p r ih =>
    intro l
    obtain ⟨h1, h2⟩ := ih (Nat.lcm l p.den)
    refine ⟨Nat.dvd_trans (Nat.dvd_lcm_left ..) h1, fun q h => ?_⟩
    rcases List.mem_cons.mp h with rfl | h
    · exact Nat.dvd_trans (Nat.dvd_lcm_right ..) h1
    · exact h2 q h
theorem lcmL_dvd {qs : List Rat} {q : Rat} (h : q ∈ qs) : q.den ∣ lcmL qs := (foldl_dvd qs 1).2 q h
theorem foldl_pos (qs : List Rat) : ∀ l : Nat, 0 < l → 0 < qs.foldl (fun l q => Nat.lcm l q.den) l := by
  induction qs with
  | nil => intro l h; exact h
  | cons p r ih => intro l h; exact ih _ (Nat.lcm_pos h p.den_pos)
theorem lcmL_pos (qs : List Rat) : 0 < lcmL qs := foldl_pos qs 1 (by decide)
theorem foldl_le {n : Nat} (qs : List Rat) : ∀ (l k : Nat), l ≤ 2 ^ k → (∀ q ∈ qs, q.den < 2 ^ n) → qs.foldl (fun l q => Nat.lcm l q.den) l ≤ 2 ^ (k + n * qs.length) := by
  induction qs with
  | nil => intro l k h _; simpa using h
  | cons p r ih =>
    intro l k h hq
    have h1 : Nat.lcm l p.den ≤ 2 ^ (k + n) := by
      rw [Nat.pow_add]
      exact Nat.le_trans (Nat.div_le_self ..) (Nat.mul_le_mul h (Nat.le_of_lt (hq p (List.mem_cons_self ..))))
    have h2 := ih _ (k + n) h1 fun q hm => hq q (List.mem_cons_of_mem _ hm)
    rw [List.length_cons, Nat.mul_add, Nat.mul_one, show k + (n * r.length + n) = k + n + n * r.length by omega]
    exact h2
theorem lcmL_le {n : Nat} {qs : List Rat} (h : ∀ q ∈ qs, q.den < 2 ^ n) : lcmL qs ≤ 2 ^ (n * qs.length) := by
  have := foldl_le qs 1 0 (by decide) h
  rwa [Nat.zero_add] at this
theorem divInt_add (a b : Int) (L : Nat) (h : 0 < L) : Rat.divInt (a + b) L = Rat.divInt a L + Rat.divInt b L := by
  have hL : (L : Int) ≠ 0 := by omega
  rw [Rat.divInt_add_divInt _ _ hL hL, ← Int.add_mul, Rat.divInt_mul_right hL]
theorem divInt_part {q : Rat} {L : Nat} (h : 0 < L) (d : q.den ∣ L) : Rat.divInt (q.num * ((L / q.den : Nat) : Int)) L = q := by
  obtain ⟨k, rfl⟩ := d
  have hk : (k : Int) ≠ 0 := by
    intro z
    have : k = 0 := by omega
    subst this
    simp at h
  rw [Nat.mul_div_cancel_left _ q.den_pos, Int.natCast_mul, Rat.divInt_mul_right hk, Rat.num_divInt_den]
theorem total_eq (L : Nat) (h0 : 0 < L) : ∀ qs : List Rat, (∀ q ∈ qs, q.den ∣ L) → Rat.divInt ((qs.map fun q => q.num * ((L / q.den : Nat) : Int)).sum) L = qs.sum
  | [], _ => by simp [Rat.divInt_eq_div, Rat.div_def]
  | q :: r, h => by
    rw [List.map_cons, List.sum_cons, List.sum_cons, divInt_add _ _ _ h0, divInt_part h0 (h q (List.mem_cons_self ..)), total_eq L h0 r fun p hp => h p (List.mem_cons_of_mem _ hp)]
/-! the first least one -/
def leastTo (qs : List Rat) : Nat → Nat
  | 0 => 0
  | i + 1 => if qs.getD (i + 1) 0 < qs.getD (leastTo qs i) 0 then i + 1 else leastTo qs i
theorem leastTo_le (qs : List Rat) : ∀ i, leastTo qs i ≤ i
  | 0 => Nat.le_refl _
  | i + 1 => by
    unfold leastTo
    split
    · exact Nat.le_refl _
    · exact Nat.le_succ_of_le (leastTo_le qs i)
end WM
namespace WM
/-! Euclid as the laws write it -/
theorem frac_num (n d : Int) (hd : d ≠ 0) (c : Int) (hc : c = if 0 < d then ((Nat.gcd n.natAbs d.natAbs : Nat) : Int) else -((Nat.gcd n.natAbs d.natAbs : Nat) : Int)) : n.fdiv c = (Rat.divInt n d).num := by
  refine fdiv_num n d hd c ?_
  rw [hc]
  by_cases h : 0 < d
  · rw [if_pos h, if_neg (by omega)]
  · rw [if_neg h, if_pos (by omega)]
theorem frac_den (n d : Int) (hd : d ≠ 0) (c : Int) (hc : c = if 0 < d then ((Nat.gcd n.natAbs d.natAbs : Nat) : Int) else -((Nat.gcd n.natAbs d.natAbs : Nat) : Int)) : d.fdiv c = ((Rat.divInt n d).den : Int) := by
  refine fdiv_den n d hd c ?_
  rw [hc]
  by_cases h : 0 < d
  · rw [if_pos h, if_neg (by omega)]
  · rw [if_neg h, if_pos (by omega)]
theorem euclid {a b : Int} (ha : 0 ≤ a) (hb : 0 < b) : Nat.gcd b.natAbs (a % b).natAbs = Nat.gcd a.natAbs b.natAbs := by
  have e : (a % b).natAbs = a.natAbs % b.natAbs := by
    have h1 : ((a.natAbs % b.natAbs : Nat) : Int) = a % b := by
      rw [Int.natCast_emod]
      congr 1 <;> omega
    omega
  rw [e, Nat.gcd_comm b.natAbs, ← Nat.gcd_rec, Nat.gcd_comm]
/-! sizes -/
theorem add_size {n m : Nat} {q r : Rat} (h1 : q.num.natAbs < 2 ^ n) (h2 : q.den < 2 ^ n) (g1 : r.num.natAbs < 2 ^ m) (g2 : r.den < 2 ^ m) : (q + r).num.natAbs < 2 ^ (n + m + 1) ∧ (q + r).den < 2 ^ (n + m + 1) := by
  have hd : (q.den : Int) * (r.den : Int) ≠ 0 := Int.ne_of_gt (Int.mul_pos (den_pos q) (den_pos r))
  rw [← add_eq q r]
  have e : 2 ^ (n + m + 1) = 2 ^ n * 2 ^ m + 2 ^ n * 2 ^ m := by rw [Nat.pow_succ, Nat.pow_add]; omega
  have l1 : q.num.natAbs * r.den < 2 ^ n * 2 ^ m := Nat.mul_lt_mul'' h1 g2
  have l2 : r.num.natAbs * q.den < 2 ^ n * 2 ^ m := by
    rw [Nat.mul_comm]
    exact Nat.mul_lt_mul'' h2 g1
  have l3 : q.den * r.den < 2 ^ n * 2 ^ m := Nat.mul_lt_mul'' h2 g2
  constructor
  · refine Nat.lt_of_le_of_lt (num_le _ _ hd) (Nat.lt_of_le_of_lt (Int.natAbs_add_le _ _) ?_)
    rw [Int.natAbs_mul, Int.natAbs_mul, Int.natAbs_natCast, Int.natAbs_natCast, e]
    omega
  · refine Nat.lt_of_le_of_lt (den_le _ _ hd) ?_
    rw [Int.natAbs_mul, Int.natAbs_natCast, Int.natAbs_natCast, e]
    omega
end WM
set_option Elab.async false
set_option linter.all false
set_option maxRecDepth 100000
set_option maxHeartbeats 4000000
/-! Lists: comprehensions and walks by a relation -/
namespace WB
open PySem PySem.Spec PyProof.Rows L2 WH
theorem pi_either {X : Cx} {tg it : Expr} {t u : TI} (h1 : PI X tg it t) (h2 : PI X tg it u) : PI X tg it (fun σ H R => t σ H R ∨ u σ H R) :=
  ⟨fun pins s σ H R I h => h.elim (h1.run pins s σ H R I) (h2.run pins s σ H R I)⟩
theorem pe_either {X : Cx} {e : Expr} {t u : TE} (h1 : PE X e t) (h2 : PE X e u) : PE X e (fun σ H Q => t σ H Q ∨ u σ H Q) :=
  ⟨fun pins s σ H Q I h => h.elim (h1.run pins s σ H Q I) (h2.run pins s σ H Q I)⟩
/-- stable: what holds of a value while the heap grows -/
def Stab (R : Nat → V → Hp → Prop) : Prop := ∀ i v H H', Ex H H' → R i v H → R i v H'
theorem SqL.ex {K : Fg} {H H' : Hp} {a : Addr} {xs : List V} (h : SqL K H a xs) (e : Ex H H') : SqL K H' a xs := by
  rcases h with (h | ⟨o, h⟩) | h
  · exact .inl (.inl (e _ _ h))
  · exact .inl (.inr ⟨o, e _ _ h⟩)
  · exact .inr h
theorem SqT.ex {K : Fg} {H H' : Hp} {a : Addr} {xs : List V} (h : SqT K H a xs) (e : Ex H H') : SqT K H' a xs := by
  rcases h with (h | ⟨o, h⟩) | h
  · exact .inl (.inl (e _ _ h))
  · exact .inl (.inr ⟨o, e _ _ h⟩)
  · exact .inr h
theorem len_line {n : Nat} (h : n ≤ 100000) : n < sizeLine := Nat.lt_of_le_of_lt h (by decide)
/-- what a comprehension over n items has made behind i of them -/
def Made1 (R : Nat → V → Hp → Prop) (H : Hp) (D : Addr) (i : Nat) (H' : Hp) : Prop := Ex H H' ∧ ∃ bs, H' D = some (.lst bs) ∧ bs.length = i ∧ ∀ j v, bs[j]? = some v → R j v H'
theorem Made1.start {R : Nat → V → Hp → Prop} {H : Hp} {D : Addr} (hD : H D = none) : Made1 R H D 0 (upd H D (.lst [])) := ⟨Ex.new hD, [], upd_same, rfl, fun j v h => by simp at h⟩
theorem Made1.turn {R : Nat → V → Hp → Prop} {H H' H2 : Hp} {D : Addr} {i : Nat} {v : V} (sR : Stab R) (hD : H D = none) (hi : i ≤ 100000) (m : Made1 R H D i H') (e : Ex H' H2) (hv : R i v H2)
    (st : ∀ j v H acc acc0, H D = some (.lst acc0) → R j v H → R j v (upd H D (.lst acc))) : ∃ acc, H2 D = some (.lst acc) ∧ acc.length < sizeLine ∧ Made1 R H D (i + 1) (upd H2 D (.lst (acc ++ [v]))) := by
  obtain ⟨e0, bs, hb, hl, hr⟩ := m
  refine ⟨bs, e _ _ hb, by rw [hl]; exact len_line hi, (e0.trans e).mut hD, bs ++ [v], upd_same, by rw [List.length_append, hl]; rfl, fun j u hj => ?_⟩
  rcases Nat.lt_or_ge j bs.length with h | h
  · rw [List.getElem?_append_left h] at hj
    exact st j u _ _ _ (e _ _ hb) (sR j u _ _ e (hr j u hj))
  · rw [List.getElem?_append_right h] at hj
    have h1 : j - bs.length < [v].length := (List.getElem?_eq_some_iff.mp hj).1
    have h2 : j = bs.length := by simp at h1; omega
    subst h2
    simp at hj
    subst hj
    rw [hl]
    exact st i v _ _ _ (e _ _ hb) hv
/-- [e for x in xs], e's value told by R, which looks at no list that grows -/
theorem lc_rel {K : Fg} {a : Addr} {xs : List V} {te : TE} {j : Nat} {vs : List Nat} {σ : L2.St} {H : Hp} {D : Addr} {Qd : Hp → Prop} (R : Nat → V → Hp → Prop) (sR : Stab R) (st : ∀ i v H acc acc0, H D = some (.lst acc0) → R i v H → R i v (upd H D (.lst acc)))
    (hD : H D = none) (hx : SqL K H a xs) (hz : xs.length ≤ 100000) (hw : ∀ x, wipe ((wipe σ vs).set j (some x)) vs = wipe σ vs)
    (step : ∀ i x H', Ex H H' → xs[i]? = some x → ∀ Q : VK, (∀ v H2, Ex H' H2 → R i v H2 → Q v H2) → te ((wipe σ vs).set j (some x)) H' Q)
    (k : ∀ bs H', Ex H H' → H' D = some (.lst bs) → bs.length = xs.length → (∀ i v, bs[i]? = some v → R i v H') → Qd H') :
    ∃ W : Nat → Nat → Hp → Prop, (∃ m, W 0 m (upd H D (.lst []))) ∧ ∀ i m H', W i m H' → ((Itl K a).stop i H' ∧ Qd H') ∨ ((Itl K a).go i H' ∧ ∃ Nx : Hp → Prop, (∀ H'', Nx H'' → ∃ m', m' < m ∧ W (i + 1) m' H'') ∧ ∀ x H'', (Itl K a).yld i H' x H'' → gName j x (wipe σ vs) H'' fun σ2 H2 =>
      wipe σ2 vs = wipe σ vs ∧ tYes σ2 H2 fun b H3 => if b = true then te σ2 H3 fun y H4 => ∃ acc, H4 D = some (.lst acc) ∧ acc.length < sizeLine ∧ Nx (upd H4 D (.lst (acc ++ [y]))) else Nx H3) :=
  lc_list (K := K) (a := a) (xs := xs) (Made1 R H D) (.start hD) (fun i H' _ m => SqL.ex hx m.1) (fun i x H' hi m => ⟨hw x, by
    refine iteT (B := Made1 R H D (i + 1) H') ?_
    exact step i x H' m.1 hi _ fun v H2 e hv => m.turn sR hD (by have := (List.getElem?_eq_some_iff.mp hi).1; omega) e hv st⟩)
    fun H' ⟨e, bs, hb, hl, hr⟩ => k bs H' e hb hl hr
theorem lc_relT {K : Fg} {a : Addr} {xs : List V} {te : TE} {j : Nat} {vs : List Nat} {σ : L2.St} {H : Hp} {D : Addr} {Qd : Hp → Prop} (R : Nat → V → Hp → Prop) (sR : Stab R) (st : ∀ i v H acc acc0, H D = some (.lst acc0) → R i v H → R i v (upd H D (.lst acc)))
    (hD : H D = none) (hx : SqT K H a xs) (hz : xs.length ≤ 100000) (hw : ∀ x, wipe ((wipe σ vs).set j (some x)) vs = wipe σ vs)
    (step : ∀ i x H', Ex H H' → xs[i]? = some x → ∀ Q : VK, (∀ v H2, Ex H' H2 → R i v H2 → Q v H2) → te ((wipe σ vs).set j (some x)) H' Q)
    (k : ∀ bs H', Ex H H' → H' D = some (.lst bs) → bs.length = xs.length → (∀ i v, bs[i]? = some v → R i v H') → Qd H') :
    ∃ W : Nat → Nat → Hp → Prop, (∃ m, W 0 m (upd H D (.lst []))) ∧ ∀ i m H', W i m H' → ((Itt K a).stop i H' ∧ Qd H') ∨ ((Itt K a).go i H' ∧ ∃ Nx : Hp → Prop, (∀ H'', Nx H'' → ∃ m', m' < m ∧ W (i + 1) m' H'') ∧ ∀ x H'', (Itt K a).yld i H' x H'' → gName j x (wipe σ vs) H'' fun σ2 H2 =>
      wipe σ2 vs = wipe σ vs ∧ tYes σ2 H2 fun b H3 => if b = true then te σ2 H3 fun y H4 => ∃ acc, H4 D = some (.lst acc) ∧ acc.length < sizeLine ∧ Nx (upd H4 D (.lst (acc ++ [y]))) else Nx H3) :=
  lc_tup (K := K) (a := a) (xs := xs) (Made1 R H D) (.start hD) (fun i H' _ m => SqT.ex hx m.1) (fun i x H' hi m => ⟨hw x, by
    refine iteT (B := Made1 R H D (i + 1) H') ?_
    exact step i x H' m.1 hi _ fun v H2 e hv => m.turn sR hD (by have := (List.getElem?_eq_some_iff.mp hi).1; omega) e hv st⟩)
    fun H' ⟨e, bs, hb, hl, hr⟩ => k bs H' e hb hl hr
/-- for lists of quotients -/
theorem RatAt.st {C : Addr} {H : Hp} {a D : Addr} {q : Rat} {acc acc0 : List V} (h : H D = some (.lst acc0)) (r : RatAt C H a q) : RatAt C (upd H D (.lst acc)) a q := by
  obtain ⟨dx, r⟩ := r
  exact ⟨dx, by rw [upd_ne (ne_of r h (by intro z; cases z))]; exact r⟩
theorem NumAt.st {C : Addr} {H : Hp} {v : V} {D : Addr} {q : Rat} {acc acc0 : List V} (h : H D = some (.lst acc0)) (r : NumAt C H v q) : NumAt C (upd H D (.lst acc)) v q := r.elim .inl fun ⟨a, e, r⟩ => .inr ⟨a, e, r.st h⟩
/-- the values are numbers -/
def NumsAt (C : Addr) (H : Hp) (vs : List V) (qs : List Rat) : Prop := vs.length = qs.length ∧ ∀ (i : Nat) v q, vs[i]? = some v → qs[i]? = some q → NumAt C H v q
theorem NumsAt.ex {C : Addr} {H H' : Hp} {vs : List V} {qs : List Rat} (h : NumsAt C H vs qs) (e : Ex H H') : NumsAt C H' vs qs := ⟨h.1, fun i v q a b => (h.2 i v q a b).ex e⟩
theorem NumsAt.at {C : Addr} {H : Hp} {vs : List V} {qs : List Rat} (h : NumsAt C H vs qs) {i : Nat} {v : V} (e : vs[i]? = some v) : ∃ q, qs[i]? = some q ∧ NumAt C H v q := by
  have l := (List.getElem?_eq_some_iff.mp e).1
  rw [h.1] at l
  exact ⟨qs[i], List.getElem?_eq_getElem l, h.2 i v _ e (List.getElem?_eq_getElem l)⟩
/-- a list or a tuple -/
def SqX (K : Fg) (H : Hp) (a : Addr) (xs : List V) : Prop := SqL K H a xs ∨ SqT K H a xs
theorem SqX.ex {K : Fg} {H H' : Hp} {a : Addr} {xs : List V} (h : SqX K H a xs) (e : Ex H H') : SqX K H' a xs := h.elim (fun h => .inl (SqL.ex h e)) fun h => .inr (SqT.ex h e)
/-- for x in xs, a list or a tuple at a -/
theorem for_seq {K : Fg} {a : Addr} {xs : List V} {g : TG} {tb : TS} {D : Ends} {σ : L2.St} {Hs H : Hp} {j : Nat} (hj : σ[j]? = some (some (.ref a))) (hx : SqX K Hs a xs) (Pv : Nat → L2.St → Hp → Prop) (h0 : Pv 0 σ H) (ex : ∀ i σ' H', Pv i σ' H' → Ex Hs H')
    (step : ∀ (i : Nat) (x : V) (σ : L2.St) (H : Hp), xs[i]? = some x → Pv i σ H → g x σ H fun σ2 H2 => tb { nx := Pv (i + 1), rt := D.rt, bk := D.nx, ct := Pv (i + 1) } σ2 H2) (fin : ∀ σ H, Pv xs.length σ H → D.nx σ H) :
    tFor (fun σ H R => iList K (tVar j) σ H R ∨ iTup K (tVar j) σ H R) g tb D σ H := by
  rcases hx with hx | hx
  · exact .inl ⟨_, hj, a, rfl, ⟨_, SqL.ex hx (ex _ _ _ h0)⟩, for_list (K := K) (a := a) (xs := xs) Pv h0 (fun i σ' H' _ q => SqL.ex hx (ex i σ' H' q)) step fin⟩
  · exact .inr ⟨_, hj, a, rfl, ⟨_, SqT.ex hx (ex _ _ _ h0)⟩, for_tup (K := K) (a := a) (xs := xs) Pv h0 (fun i σ' H' _ q => SqT.ex hx (ex i σ' H' q)) step fin⟩
/-- [e for x in xs], over a list or a tuple -/
theorem lc_relX {K : Fg} {a : Addr} {xs : List V} {te : TE} {j j0 : Nat} {vs : List Nat} {σ : L2.St} {H : Hp} {Qv : VK} (hj : σ[j0]? = some (some (.ref a))) (R : Nat → V → Hp → Prop) (sR : Stab R) (st : ∀ (D : Addr) i v H acc acc0, H D = some (.lst acc0) → R i v H → R i v (upd H D (.lst acc)))
    (hx : SqX K H a xs) (hz : xs.length ≤ 100000) (hw : ∀ x, wipe ((wipe σ vs).set j (some x)) vs = wipe σ vs)
    (step : ∀ i x H', Ex H H' → xs[i]? = some x → ∀ Q : VK, (∀ v H2, Ex H' H2 → R i v H2 → Q v H2) → te ((wipe σ vs).set j (some x)) H' Q)
    (k : ∀ D bs H', H D = none → Ex H H' → H' D = some (.lst bs) → bs.length = xs.length → (∀ i v, bs[i]? = some v → R i v H') → Qv (.ref D) H') :
    tLc (fun σ H R => iList K (tVar j0) σ H R ∨ iTup K (tVar j0) σ H R) (gName j) tYes te vs σ H Qv := by
  rcases hx with hx | hx
  · exact .inl ⟨_, hj, a, rfl, ⟨_, hx⟩, fun D hD => lc_rel (Qd := Qv (.ref D)) R sR (st D) hD hx hz hw step fun bs H' e hb hl hr => k D bs H' hD e hb hl hr⟩
  · exact .inr ⟨_, hj, a, rfl, ⟨_, hx⟩, fun D hD => lc_relT (Qd := Qv (.ref D)) R sR (st D) hD hx hz hw step fun bs H' e hb hl hr => k D bs H' hD e hb hl hr⟩
end WB
namespace WB
open PySem PySem.Spec PyProof.Rows L2 WH
theorem TyX_new {K : Fg} {H : Hp} {x : V} {t : Value} {p : Addr} {o : HO} (h : TyX K H x t) (hp : H p = none) : TyX K (upd H p o) x t := by
  have at_ : ∀ {a : Addr} {u : HO}, H a = some u → upd H p o a = some u := fun e => by rw [upd_ne (ne_of_none e hp)]; exact e
  cases h with
  | base b =>
    refine .base ?_
    cases b with
    | non => exact .non
    | bl y => exact .bl y
    | int i => exact .int i
    | str y => exact .str y
    | flt y => exact .flt y
    | lst e => exact .lst (at_ e)
    | frz e => exact .frz (at_ e)
    | tup e => exact .tup (at_ e)
    | dK e => exact .dK (at_ e)
    | dT e => exact .dT (at_ e)
    | ins e c1 c2 c3 c4 c5 => exact .ins (at_ e) c1 c2 c3 c4 c5
  | byt y => exact .byt y
  | set e => exact .set (at_ e)
  | kList e c => exact .kList e c
  | kTuple e c => exact .kTuple e c
  | kDict e c => exact .kDict e c
  | fTuple e => exact .fTuple (at_ e)
  | fDict e => exact .fDict (at_ e)
end WB
namespace WB
open PySem PySem.Spec PyProof.Rows L2 WH
/-! ### all but one object is kept -/
def Kp (m : Addr) (H H' : Hp) : Prop := ∀ a o, H a = some o → a ≠ m → H' a = some o
theorem Kp.rfl {m : Addr} {H : Hp} : Kp m H H := fun _ _ h _ => h
theorem Kp.trans {m : Addr} {H H1 H2 : Hp} (a : Kp m H H1) (b : Kp m H1 H2) : Kp m H H2 := fun x o h n => b x o (a x o h n) n
theorem Ex.kp {m : Addr} {H H' : Hp} (e : Ex H H') : Kp m H H' := fun a o h _ => e a o h
theorem Kp.set {m : Addr} {H : Hp} {o : HO} : Kp m H (upd H m o) := fun a u h n => by rw [upd_ne n]; exact h
/-- the bag of a law: a great rest, a seed, a count up to n -/
def BagAt (H : Hp) (m : Addr) (n : Nat) : Prop := ∃ x y z : Int, H m = some (.lst [.int x, .int y, .int z]) ∧ 0 ≤ x ∧ 0 ≤ y ∧ y < 2147483629 ∧ 0 ≤ z ∧ z ≤ (n : Int)
theorem BagAt.ex {H H' : Hp} {m : Addr} {n : Nat} (b : BagAt H m n) (e : Ex H H') : BagAt H' m n := by
  obtain ⟨x, y, z, h, r⟩ := b
  exact ⟨x, y, z, e _ _ h, r⟩
theorem BagAt.mono {H : Hp} {m : Addr} {n k : Nat} (b : BagAt H m n) (l : n ≤ k) : BagAt H m k := by
  obtain ⟨x, y, z, h, h1, h2, h3, h4, h5⟩ := b
  exact ⟨x, y, z, h, h1, h2, h3, h4, by omega⟩
theorem BagAt.ne {H : Hp} {m a : Addr} {n : Nat} {o : HO} (b : BagAt H m n) (h : H a = some o) (d : ∀ xs, o ≠ .lst xs) : a ≠ m := by
  obtain ⟨x, y, z, hm, _⟩ := b
  exact ne_of h hm (d _)
theorem RatAt.kp {C : Addr} {H H' : Hp} {m a : Addr} {n : Nat} {q : Rat} (r : RatAt C H a q) (b : BagAt H m n) (k : Kp m H H') : RatAt C H' a q := by
  obtain ⟨dx, h⟩ := r
  exact ⟨dx, k _ _ h (b.ne h fun _ z => by cases z)⟩
theorem NumAt.kp {C : Addr} {H H' : Hp} {m : Addr} {v : V} {n : Nat} {q : Rat} (r : NumAt C H v q) (b : BagAt H m n) (k : Kp m H H') : NumAt C H' v q := r.elim .inl fun ⟨a, e, r⟩ => .inr ⟨a, e, r.kp b k⟩
/-- a quotient as a tuple of its top and bottom -/
def RPair (H : Hp) (p : Addr) (q : Rat) : Prop := H p = some (.tup [.int q.num, .int q.den])
theorem RPair.ex {H H' : Hp} {p : Addr} {q : Rat} (r : RPair H p q) (e : Ex H H') : RPair H' p q := e _ _ r
theorem RPair.kp {H H' : Hp} {m p : Addr} {n : Nat} {q : Rat} (r : RPair H p q) (b : BagAt H m n) (k : Kp m H H') : RPair H' p q := k _ _ r (b.ne r fun _ z => by cases z)
theorem RPair.sq {K : Fg} {H : Hp} {p : Addr} {q : Rat} (r : RPair H p q) : SqT K H p [.int q.num, .int q.den] := SqT.of r
def RetPair (H : Hp) (Q : VK) (q : Rat) : Prop := ∀ p H', H p = none → Ex H H' → RPair H' p q → Q (.ref p) H'
/-- a bag may not be new -/
theorem BagAt.free {H : Hp} {m p : Addr} {n : Nat} (b : BagAt H m n) (h : H p = none) : p ≠ m := by
  obtain ⟨x, y, z, hm, _⟩ := b
  exact (ne_of_none hm h).symm
end WB
namespace WB
open PySem PySem.Spec PyProof.Rows L2 WH
/-! ### within a comprehension: the written part is the one around it -/
section
variable {X : Cx} {s0 : Shared} {H0 : Hp} {scope : Scope} {cenv : Env} {fp : List Addr}
theorem pe_fldB {e : Expr} {f : Str} {pos : Pos} {ta : TE} (he : PE (X.blk s0 H0 scope cenv fp) e ta) (hb : attributeBase e f (X.blk s0 H0 scope cenv fp).env (eval e (X.blk s0 H0 scope cenv fp).env) = eval e (X.blk s0 H0 scope cenv fp).env) : PE (X.blk s0 H0 scope cenv fp) (.Attribute e f pos) (tFld X.K ta f) := pe_fld he hb
theorem ix_listB : IxR (X.blk s0 H0 scope cenv fp) (rIxL X.K) := ix_list
theorem ix_tupB : IxR (X.blk s0 H0 scope cenv fp) (rIxT X.K) := ix_tup
theorem ix_seqB : IxR (X.blk s0 H0 scope cenv fp) (rIx X.K) := ix_seq
theorem call_isiB : CallR (X.blk s0 H0 scope cenv fp) (.builtin "isinstance") (rIsi X.K) := call_isi
theorem call_lenB : CallR (X.blk s0 H0 scope cenv fp) (.builtin "len") (fun xs H Q => ∃ x n, xs = [x] ∧ LenV X.K x H n ∧ Q (.int n) H) := call_len
theorem op_in_seqB : OpR (X.blk s0 H0 scope cenv fp) (compareOp .In) (rIn X.K false) := op_in_seq
theorem op_notIn_seqB : OpR (X.blk s0 H0 scope cenv fp) (compareOp .NotIn) (rIn X.K true) := op_notIn_seq
theorem op_eqDB (hu : X.A.units + 64 < cLine) : OpR (X.blk s0 H0 scope cenv fp) (compareOp .Eq) (rEqD X.K) := op_eqD hu
theorem op_neDB (hu : X.A.units + 64 < cLine) : OpR (X.blk s0 H0 scope cenv fp) (compareOp .NotEq) (rNeD X.K) := op_neD hu
theorem pi_listB {tg l : Expr} {tl : TE} (hl : PE (X.blk s0 H0 scope cenv fp) l tl) : PI (X.blk s0 H0 scope cenv fp) tg l (iList X.K tl) := pi_list hl
theorem pi_tupB {tg l : Expr} {tl : TE} (hl : PE (X.blk s0 H0 scope cenv fp) l tl) : PI (X.blk s0 H0 scope cenv fp) tg l (iTup X.K tl) := pi_tup hl
end
end WB
set_option Elab.async false
set_option linter.all false
set_option maxRecDepth 100000
set_option maxHeartbeats 4000000
/-! identity with a truth, != of lists with own things, calls by names alone -/
namespace WB
open PySem PySem.Spec PyProof.Rows L2 WH
def rIsAny : R2 := fun x y H Q => ∃ b : Bool, y = .bl b ∧ Q (.bl (decide (x = .bl b))) H
def rNotAny : R2 := fun x y H Q => ∃ b : Bool, y = .bl b ∧ Q (.bl (!decide (x = .bl b))) H
theorem plain_bool {x : V} {v : Value} {b : Bool} (r : RelV x v) : plainIs v (.bool b) = true ∧ (v = .bool b ↔ x = .bl b) := by
  cases x with
  | bl c => cases r; exact ⟨rfl, ⟨fun h => (by cases h; rfl), fun h => (by cases h; rfl)⟩⟩
  | non => cases r; exact ⟨rfl, ⟨fun h => (by cases h), fun h => (by cases h)⟩⟩
  | int i => obtain ⟨t, rfl⟩ := r; exact ⟨rfl, ⟨fun h => (by cases h), fun h => (by cases h)⟩⟩
  | str i => obtain ⟨t, rfl⟩ := r; exact ⟨rfl, ⟨fun h => (by cases h), fun h => (by cases h)⟩⟩
  | byt i => obtain ⟨t, rfl⟩ := r; exact ⟨rfl, ⟨fun h => (by cases h), fun h => (by cases h)⟩⟩
  | flt i => obtain ⟨t, rfl⟩ := r; exact ⟨rfl, ⟨fun h => (by cases h), fun h => (by cases h)⟩⟩
  | ref a => cases r; exact ⟨rfl, ⟨fun h => (by cases h), fun h => (by cases h)⟩⟩
  | ty a => cases r; exact ⟨rfl, ⟨fun h => (by cases h), fun h => (by cases h)⟩⟩
section
variable {X : Cx}
theorem op_isAny : OpR X (compareOp .Is) rIsAny := by
  intro pins s σ H x y v u Q I rx ry ⟨b, ey, q⟩
  subst ey
  cases (show u = Value.bool b from ry)
  obtain ⟨p, e⟩ := plain_bool (b := b) rx
  by_cases h : x = .bl b
  · have hv := e.mpr h
    subst hv
    exact wpAny_is_self p ⟨.bl true, H, I, rfl, by rw [decide_eq_true h] at q; exact q⟩
  · exact wpAny_is_other p (fun z => h (e.mp z)) ⟨.bl false, H, I, rfl, by rw [decide_eq_false h] at q; exact q⟩
theorem op_notAny : OpR X (compareOp .IsNot) rNotAny := by
  intro pins s σ H x y v u Q I rx ry ⟨b, ey, q⟩
  subst ey
  cases (show u = Value.bool b from ry)
  obtain ⟨p, e⟩ := plain_bool (b := b) rx
  by_cases h : x = .bl b
  · have hv := e.mpr h
    subst hv
    exact wpAny_isNot_self p ⟨.bl false, H, I, rfl, by rw [decide_eq_true h] at q; exact q⟩
  · exact wpAny_isNot_other p (fun z => h (e.mp z)) ⟨.bl true, H, I, rfl, by rw [decide_eq_false h] at q; exact q⟩
end
/-! ### == of the same things -/
/-- the very same object on both sides -/
def DSelf : Eqv := fun x y _ => ∃ a, x = .ref a ∧ y = .ref a
theorem mon_self : Mon DSelf := fun _ _ _ _ _ d => d
theorem eqG_self {X : Cx} : EqG X 0 DSelf := by
  intro A pins s σ H x y u v sb I rx ry ⟨a, ex, ey⟩
  subst ex ey
  cases (show u = Value.ref a from rx)
  cases (show v = Value.ref a from ry)
  exact SeqAt.EqAt.same (A := A) (s := s) (.ref a) X.prog X.w X.xe _ ⟨rfl, H, I, fun _ _ h => h⟩
abbrev DThing : Eqv := fun x y H => DFlat x y H ∨ DSelf x y H
theorem op_eqThings {X : Cx} (hr : Room 1 X.A) : OpR X (compareOp .Eq) (rEqG (DList DThing)) := op_eqG (rcG_list (mon_flat.or mon_self) (eqG_flat.or eqG_self)) hr
/-! ### calls by names alone -/
section
variable {X : Cx} {k : Nat} {f C : Addr} {fd : FuncData} {ps ks : List Str} {sp : Sp} {E : XK} {x m : Str} {p pos apos : Pos} {o : Expr} {kws : List Keyword} {ta : TE} {tk : TA} {g : List Value → List Value → List Value} {gV : List V → List V → List V} {pl : Sem Bool}
theorem pe_callK0 (F : FnX X.prog X.w X.K X.mg X.base k f fd ps sp) (hr : Room k X.A) (hm : X.mg x = some (.ref f)) (hk : PySem.W.keepIn X.K (.ref f) = true) (hb : KBn X.K fd ps 0 ks g gV) (hx : Passes (L2.CX X.prog X.w) X E) (hkw : PK X kws tk) (hg : Gl X x := by rfl)
    (h1 : (backToKw pos (keywordEach kws X.env)).all (·.1.isSome) = true := by rfl) (h2 : (backToKw pos (keywordEach kws X.env)).filterMap (·.1) = ks := by rfl) (h3 : (x == ("__debug__" : Str)) = false := by decide)
    (h4 : ((backTo pos (starEach [] X.env)).any (·.1) || (backToKw pos (keywordEach kws X.env)).any (·.1.isNone)) = false := by rfl) : PE X (.Call (.Name x p) [] kws pos) (tCallN 0 ks.length sp gV E tNil tk) := by
  refine ⟨fun pins s σ H Q I h => wpAny_Call_Name_kw (ld_glob I hg hm ?_ h3)⟩
  refine PySem.W.callWith_KW0 (h₀ := X.base) I.ok.mod.kin hk h1 (thn (hkw.run pos pins s σ H _ I h) fun ws s2 ⟨zs, H2, I2, rz, l1, l2, q2⟩ => ⟨I2.kIn, ?_⟩) h4
  rw [h2]
  exact run_fnN (us := []) (vs := []) F hr hb hx I2 .nil rz rfl l2 q2
/-- o.m(k = e, ..) -/
def tMethK (C : Addr) (m : Str) (n : Nat) (sp : Sp) (gV : List V → List V → List V) (E : XK) (ta : TE) (tk : TA) : TE := fun σ H Q => ta σ H fun x H1 => ∃ a dx fs, x = .ref a ∧ H1 a = some (.ins C dx fs) ∧ fs.lookup m = none ∧ tk σ H1 fun zs H2 => zs.length = n ∧ sp (gV [x] zs) H2 Q E
theorem pe_methK0 (he : PE X o ta) (c : Cls X.K C) (hm : Meth X.K C m f) (F : FnX X.prog X.w X.K X.mg X.base k f fd ps sp) (hr : Room k X.A) (hb : KBn X.K fd ps 1 ks g gV) (hx : Passes (L2.CX X.prog X.w) X E) (hkw : PK X kws tk)
    (h1 : (backToKw pos (keywordEach kws X.env)).all (·.1.isSome) = true := by rfl) (h2 : (backToKw pos (keywordEach kws X.env)).filterMap (·.1) = ks := by rfl)
    (h4 : ((backTo pos (starEach [] X.env)).any (·.1) || (backToKw pos (keywordEach kws X.env)).any (·.1.isNone)) = false := by rfl)
    (h5 : eval (.Call (.Attribute o m apos) [] kws pos) X.env = (do let ov ← eval o X.env; standAt apos.atName; let (f, first) ← holding [ov] (getMethod ov m pl); callWith pos f first (backTo pos (starEach [] X.env)) (backToKw pos (keywordEach kws X.env))) := by rfl) :
    PE X (.Call (.Attribute o m apos) [] kws pos) (tMethK C m ks.length sp gV E ta tk) := by
  refine ⟨fun pins s σ H Q I h => PySem.W.methodCall_KW (pl := pl) (thn (he.run pins s σ H _ I h) fun u s1 ⟨x, H1, I1, rx, a, dx, fs, ex, ea, l, q⟩ => ?_) h5⟩
  subst ex
  cases (show u = Value.ref a from rx)
  refine getmeth_ok I1 ea c hm l (PySem.W.callWith_KW0 (first := [.ref a]) (h₀ := X.base) I.ok.mod.kin hm.kp h1 (thn (hkw.run pos pins s1 σ H1 _ I1 q) fun ws s2 ⟨zs, H2, I2, rz, l2, q2⟩ => ⟨I2.kIn, ?_⟩) h4)
  rw [h2]
  exact run_fnN (us := [.ref a]) (vs := [.ref a]) F hr hb hx I2 (.cons rx .nil) rz rfl l2 q2
end
/-- how names bind, for a def without defaults -/
theorem kbn_of {K : Fg} {x q : Str} {st : Stmt} {f : Addr} {fd : FuncData} {ps ks : List Str} (F : FnP K x q st [] f fd) (n : Nat) (g : {α : Type} → List α → List α → List α) (hrel : ∀ {vs zs : List V} {us ws : List Value}, Vals vs us → Vals zs ws → Vals (g vs zs) (g us ws))
    (h : ∀ (kV doc pm : Value) (an : Option Addr) (cdv ct : Value) (us ws : List Value), us.length = n → ws.length = ks.length → bindArgs (PySem.W.fnOf x q (defArgs st) (defBody st) (defScope st) .none kV doc pm an cdv ct) ⟨us, ks.zip ws⟩ = pure (ps.zip (g us ws))) :
    KBn K fd ps n ks (fun us ws => g us ws) (fun vs zs => g vs zs) := by
  obtain ⟨oc, od, dV, kV, doc, pm, an, cdv, ct, osl, rfl, lk, hcd, hD, hK⟩ := F.ex
  rcases hD with ⟨_, e⟩ | ⟨e, _⟩
  · subst e
    exact ⟨fun s us ws _ l1 l2 => BindsTo.of_eq (h kV doc pm an cdv ct us ws l1 l2), fun r1 r2 => hrel r1 r2⟩
  · exact absurd rfl e
end WB
set_option Elab.async false
set_option linter.all false
set_option maxRecDepth 100000
set_option maxHeartbeats 4000000
/-! != of two lists whose items are equal, some by an own == -/
namespace WNe
open PySem PySem.SeqAt AutoSeq1 MeetsSeq MeetsSeq2 MeetsSeq3 SeqRoads2
section
variable {prog : Program} {w : World} {A : Around} {R : Result → Shared → Prop}
theorem walk (l b : Addr) (N : Nat) (I : Nat → Shared → Prop) (items : GQ.ListI prog w A (fun e s' => R (.error e) s') l b N I) (last : ∀ s, I N s → R (.ok (.ret (.bool false))) s) : ∀ (k i : Nat), N - i = k → i ≤ N → ∀ s, I i s →
    wpAny (model prog w) A.in1 (Builtin.«list.__eq__.loop» ⟨[.ref l, .ref b, rawInt i, rawInt 3], []⟩) (GQ.FinOf prog w A R) (fun e s' => R (.error e) s') s
  | 0, i, hk, hi, s, h => by
    obtain ⟨xs, ys, n, n2, gx, gy, sx, sy, _⟩ := items _ _ h
    have e : i = N := by omega
    have done := last s (e ▸ h)
    obtain ⟨hp, g, d, tk, os⟩ := s
    wp_walk using wpAny_loadPart' gx, wpAny_loadPart' gy
    have nx : xs[((i : Nat) : Int).toNat]? = none := by simp; omega
    have ny : ys[((i : Nat) : Int).toNat]? = none := by simp; omega
    rw [nx, ny]
    wp_walk using wpAny_loadPart' gx, wpAny_loadPart' gy
    show R (.ok (.ret (.bool (xs.size != ys.size)))) _
    rw [sx, sy]
    simpa using done
  | k + 1, i, hk, hi, s, h => by
    obtain ⟨xs, ys, n, n2, gx, gy, sx, sy, turn⟩ := items _ _ h
    have lx : i < xs.size := by omega
    have ly : i < ys.size := by omega
    have one := turn lx ly
    obtain ⟨hp, g, d, tk, os⟩ := s
    wp_walk using wpAny_loadPart' gx, wpAny_loadPart' gy
    have nx : xs[((i : Nat) : Int).toNat]? = some xs[i] := by simp [lx]
    have ny : ys[((i : Nat) : Int).toNat]? = some ys[i] := by simp [ly]
    have ei : ((i : Int) + 1) = ((i + 1 : Nat) : Int) := by omega
    rw [nx, ny]
    refine wpAny_bind (wpAny_mono one (fun r s2 z => ?_) fun _ _ z => z)
    obtain ⟨er, h2⟩ := z
    subst er
    have more := walk l b N I items last k (i + 1) (by omega) (by omega) s2 h2
    obtain ⟨hp2, g2, d2, tk2, os2⟩ := s2
    wp_walk
    rw [ei]
    refine ⟨plainId_quiet plain_eq_loop _, codeAny_builtin entry_eq_loop ?_⟩
    rw [Around.under_plainId plain_eq_loop _]
    exact more
theorem body (l b : Addr) (N : Nat) (I : Nat → Shared → Prop) (items : GQ.ListI prog w A (fun e s' => R (.error e) s') l b N I) (last : ∀ s, I N s → R (.ok (.ret (.bool false))) s) {s : Shared} (h : I 0 s) :
    wpAny (model prog w) A.in1 (Builtin.«list.__ne__» ⟨[.ref l, .ref b], []⟩) (GQ.FinOf prog w A R) (fun e s' => R (.error e) s') s := by
  obtain ⟨xs, ys, n, n2, gx, gy, sx, sy, _⟩ := items _ _ h
  have more := walk (A := A) (R := R) l b N I items last _ 0 rfl (Nat.zero_le _) s h
  obtain ⟨hp, g, d, tk, os⟩ := s
  have f3 := AutoSeq1.sub_list_list
  have same : ¬ (xs.size != ys.size) = true := by simp [sx, sy]
  wp_walk using wpAny_loadPart' gx, wpAny_loadPart' gy
  refine ⟨plainId_quiet plain_eq_loop _, codeAny_builtin entry_eq_loop ?_⟩
  rw [Around.under_plainId plain_eq_loop _]
  exact more
end
theorem rich {prog : Program} {w : World} {A : Around} {E : Value → Shared → Prop} {s : Shared} {l b : Addr} {N : Nat} {Q : Value → Shared → Prop} (hu : A.units < cLine) (I : Nat → Shared → Prop) (items : GQ.ListI prog w A E l b N I)
    (last : ∀ s, I N s → Q (.bool false) s) (h : I 0 s) : wpAny (model prog w) A (richCompare .NotEq (.ref l) (.ref b)) Q E s := by
  obtain ⟨xs, ys, n, n2, gx, gy, _, _, _⟩ := items _ _ h
  refine wpAny_richCompare_same_room (op := .NotEq) ⟨_, gx, rfl⟩ ⟨_, gy, rfl⟩ F.slot_list_ne (GQ.call_here F.slot_list_ne ⟨_, gx, rfl⟩ F.entry_list_ne (F.args_list_ne_2 _ _) ?_) hu
  exact body (R := wants (fun v s' => v ≠ .notImplemented ∧ Q v s') E) l b N I items (fun s' q => ⟨(fun z => nomatch z), last s' q⟩) h
end WNe
namespace WB
open PySem PySem.Spec PyProof.Rows L2 WH
def rNeG (D : Eqv) : R2 := fun x y H Q => DList D x y H ∧ ∀ H', L2.Ext H H' → Q (.bl false) H'
theorem op_neG {X : Cx} {n : Nat} {D : Eqv} (hD : Mon D) (h : EqG X n D) (hr : Room (n + 1) X.A) : OpR X (compareOp .NotEq) (rNeG D) := by
  intro pins s σ H x y v u Q I rx ry ⟨d, q⟩
  obtain ⟨a, b, xs, ys, ex, ey, ha, hb, p⟩ := d
  subst ex ey
  cases (show v = Value.ref a from rx)
  cases (show u = Value.ref b from ry)
  show wpAny _ _ (richCompare .NotEq (.ref a) (.ref b)) _ _ _
  refine WNe.rich (N := xs.length) hr.units0 (fun _ s' => LoopI X pins σ H s') (fun i s' z => ?_) (fun s' z => ?_) ⟨H, I, fun _ _ h => h⟩
  · obtain ⟨H1, I1, e1⟩ := id z
    obtain ⟨z1, us, k1, r1, g1⟩ := I1.hok a _ (e1 _ _ ha)
    obtain ⟨z2, ws, k2, r2, g2⟩ := I1.hok b _ (e1 _ _ hb)
    exact ⟨us.toArray, ws.toArray, k1, k2, g1, g2, by rw [List.size_toArray, ← r1.length], by rw [List.size_toArray, ← r2.length, ← p.1], fun h1 h2 => turnG hD h ⟨hr, rfl⟩ p r1 r2 i h1 h2 s' z⟩
  · obtain ⟨H1, I1, e1⟩ := z
    exact ⟨.bl false, H1, I1, rfl, q H1 e1⟩
/-- an own thing on the left of what its == says is equal -/
def DOwn (K : Fg) (C : Addr) (R : Addr → V → Hp → Prop) : Eqv := fun x y H => ∃ a dx fs, x = .ref a ∧ H a = some (.ins C dx fs) ∧ (∃ i, y = .int i) ∧ R a y H
end WB
set_option Elab.async false
set_option linter.all false
set_option maxRecDepth 100000
set_option maxHeartbeats 4000000
/-! calls by names alone, as their callers know them -/
namespace WB
open PySem PySem.Spec PyProof.Rows L2 WH
/-- a def, called by names: gV puts what is named in its order -/
structure CalleeK (P : Program) (w : World) (K : Fg) (mg : Str → Option Value) (base : Heap) (k : Nat) (x : Str) (ps ks : List Str) (gV : List V → List V → List V) (sp : Sp) : Prop where
  ex : ∃ f fd g, mg x = some (.ref f) ∧ PySem.W.keepIn K (.ref f) = true ∧ KBn K fd ps 0 ks g gV ∧ FnX P w K mg base k f fd ps sp
structure MakerK (P : Program) (w : World) (K : Fg) (mg : Str → Option Value) (base : Heap) (k : Nat) (x : Str) (C : Addr) (ps ks : List Str) (gV : List V → List V → List V) (sp : Sp) : Prop where
  ex : ∃ f fd g, mg x = some (.ref C) ∧ Mk K C f ∧ KBn K fd ps 1 ks g gV ∧ FnX P w K mg base k f fd ps sp
structure MthdK (P : Program) (w : World) (K : Fg) (mg : Str → Option Value) (base : Heap) (k : Nat) (C : Addr) (m : Str) (ps ks : List Str) (gV : List V → List V → List V) (sp : Sp) : Prop where
  ex : ∃ f fd g, Cls K C ∧ Meth K C m f ∧ KBn K fd ps 1 ks g gV ∧ FnX P w K mg base k f fd ps sp
section
variable {X : Cx} {k : Nat} {C : Addr} {ps ks : List Str} {sp : Sp} {E : XK} {x m : Str} {p pos apos : Pos} {o : Expr} {kws : List Keyword} {ta : TE} {tk : TA} {gV : List V → List V → List V} {pl : Sem Bool}
theorem pe_calleeK (c : CalleeK X.prog X.w X.K X.mg X.base k x ps ks gV sp) (hr : Room k X.A) (hx : Passes (L2.CX X.prog X.w) X E) (hkw : PK X kws tk) (hg : Gl X x := by rfl)
    (h1 : (backToKw pos (keywordEach kws X.env)).all (·.1.isSome) = true := by rfl) (h2 : (backToKw pos (keywordEach kws X.env)).filterMap (·.1) = ks := by rfl) (h3 : (x == ("__debug__" : Str)) = false := by decide)
    (h4 : ((backTo pos (starEach [] X.env)).any (·.1) || (backToKw pos (keywordEach kws X.env)).any (·.1.isNone)) = false := by rfl) : PE X (.Call (.Name x p) [] kws pos) (tCallN 0 ks.length sp gV E tNil tk) := by
  obtain ⟨f, fd, g, e1, e2, e3, F⟩ := c.ex
  exact pe_callK0 F hr e1 e2 e3 hx hkw hg h1 h2 h3 h4
theorem pe_makerK (c : MakerK X.prog X.w X.K X.mg X.base k x C ps ks gV sp) (hr : Room (k + 1) X.A) (hx : Passes (L2.CX X.prog X.w) X E) (hkw : PK X kws tk) (hg : Gl X x := by rfl)
    (h1 : (backToKw pos (keywordEach kws X.env)).all (·.1.isSome) = true := by rfl) (h2 : (backToKw pos (keywordEach kws X.env)).filterMap (·.1) = ks := by rfl) (h3 : (x == ("__debug__" : Str)) = false := by decide)
    (h4 : ((backTo pos (starEach [] X.env)).any (·.1) || (backToKw pos (keywordEach kws X.env)).any (·.1.isNone)) = false := by rfl) : PE X (.Call (.Name x p) [] kws pos) (tMakeK C 0 ks.length sp gV E tNil tk) := by
  obtain ⟨f, fd, g, e1, e2, e3, F⟩ := c.ex
  exact pe_makeK0 e2 F hr hg e1 e3 hx hkw h1 h2 h3 h4
theorem pe_mthdK (c : MthdK X.prog X.w X.K X.mg X.base k C m ps ks gV sp) (he : PE X o ta) (hr : Room k X.A) (hx : Passes (L2.CX X.prog X.w) X E) (hkw : PK X kws tk)
    (h1 : (backToKw pos (keywordEach kws X.env)).all (·.1.isSome) = true := by rfl) (h2 : (backToKw pos (keywordEach kws X.env)).filterMap (·.1) = ks := by rfl)
    (h4 : ((backTo pos (starEach [] X.env)).any (·.1) || (backToKw pos (keywordEach kws X.env)).any (·.1.isNone)) = false := by rfl)
    (h5 : eval (.Call (.Attribute o m apos) [] kws pos) X.env = (do let ov ← eval o X.env; standAt apos.atName; let (f, first) ← holding [ov] (getMethod ov m pl); callWith pos f first (backTo pos (starEach [] X.env)) (backToKw pos (keywordEach kws X.env))) := by rfl) :
    PE X (.Call (.Attribute o m apos) [] kws pos) (tMethK C m ks.length sp gV E ta tk) := by
  obtain ⟨f, fd, g, e1, e2, e3, F⟩ := c.ex
  exact pe_methK0 he e1 e2 F hr e3 hx hkw h1 h2 h4 h5
end
/-- names bind a def that has defaults, all from names and places -/
theorem kbnD {K : Fg} {x qual : Str} {params : Arguments} {body : List Stmt} {scope : Scope} {dvs : List V} {f : Addr} {fd : FuncData} {ps : List Str} (F : FunD K x qual params body scope dvs [] f fd) (n : Nat) (ks : List Str) (g : {α : Type} → List α → List α → List α) (hd : dvs ≠ [])
    (hrel : ∀ {vs zs : List V} {us ws : List Value}, Vals vs us → Vals zs ws → Vals (g vs zs) (g us ws))
    (h : ∀ (T : Addr) (kV doc pm : Value) (an : Option Addr) (cdv ct : Value) (us its ws : List Value), us.length = n → its.length = dvs.length → ws.length = ks.length →
      ∃ k, bindArgs (PySem.W.fnOf x qual params body scope (.ref T) kV doc pm an cdv ct) ⟨us, ks.zip ws⟩ = seqItems? (.ref T) >>= k ∧ k (some its.toArray) = pure (ps.zip (g us ws))) : KBn K fd ps n ks (fun us ws => g us ws) (fun vs zs => g vs zs) := by
  obtain ⟨oc, od, dV, kV, doc, pm, an, cdv, ct, osl, rfl, lk, hcd, hD, hK⟩ := F.ex
  rcases hD with ⟨e, _⟩ | ⟨_, T, o, its, m, rfl, lT, oT, rT⟩
  · exact absurd e hd
  · refine ⟨fun s us ws X l1 l2 => ?_, fun r1 r2 => hrel r1 r2⟩
    obtain ⟨k, e1, e2⟩ := h T kV doc pm an cdv ct us its ws l1 rT.length.symm l2
    refine BindsTo.of_looks fun M => ?_
    rw [e1]
    exact looks_items X lT oT (.of_pure e2)
end WB
set_option Elab.async false
set_option linter.all false
set_option maxRecDepth 100000
set_option maxHeartbeats 4000000
namespace PP
open PySem PySem.Spec PyProof.Rows L2 WH WB WM
def top (i : Nat) : Stmt := PySem.Challenge.pw_winoften_k02_ratios_reckoned.main.body.getD i (.Pass ⟨0, 0, 0, 0⟩)
section
variable {P : Program} {w : World} {K : Fg} {mg : Str → Option Value} {base : Heap} {C CZ : Addr} {f : Addr} {fd : FuncData}
/-! ## the class Ratio -/
/-! is_whole -/
abbrev s_is_whole : Stmt := top 7
theorem sc_is_whole : FnScope ["value"] ["value"] (defScope s_is_whole) := ⟨rfl, rfl, rfl, by decide +kernel, rfl, by decide +kernel, by decide +kernel⟩
def spWhole (K : Fg) (C : Addr) : Sp := fun vs H Q _ => ∃ x wh rt, vs = [x] ∧ TyN K C H x wh rt ∧ Q (.bl wh) H
theorem ok_is_whole (F : FnP K "is_whole" "is_whole" s_is_whole [] f fd) (m_isinstance : mg "isinstance" = none) (m_int : mg "int" = none) : FnX P w K mg base 1 f fd ["value"] (spWhole K C) := by
  refine F.ok sc_is_whole (fun vs H Q E h => ?_) (fun cdv A outer s H vs Q E hr h => ?_)
  · obtain ⟨x, wh, rt, rfl, _⟩ := h
    rfl
  · obtain ⟨x, wh, rt, rfl, ⟨t, bi, ty, h1, e, h3⟩, k⟩ := h
    refine ⟨_, (pss_one (ps_ret (pe_and (pe_callB call_isi (by rfl) m_isinstance (by decide +kernel) (pa_cons (pv 0) (pa_cons (pe_bltn (v := .ty "int") (by rfl) m_int (by decide +kernel) rfl) pa_nil))) (pe_and (pe_cmpR op_notAny (pv 0) pe_bl (nomark _)) (pe_one (pe_cmpR op_notAny (pv 0) pe_bl (nomark _))))))), ?_⟩
    refine ⟨_, rfl, x, .ty "int", t, _, bi, rfl, .ty _, ty, h1, bi, rfl, ?_⟩
    subst e
    cases bi with
    | false => exact iteF k
    | true =>
      refine iteT ⟨_, rfl, true, rfl, _, rfl, ?_⟩
      cases hb : isB x with
      | true =>
        rw [hb] at k
        cases x with
        | bl b =>
          cases b with
          | true => exact iteF k
          | false => exact iteT ⟨_, rfl, false, rfl, k⟩
        | _ => cases hb
      | false =>
        rw [hb] at k
        rw [isB_no hb]
        refine iteT ⟨_, rfl, false, rfl, ?_⟩
        rw [isB_no hb]
        exact k
theorem TyN.int {H : Hp} {i : Int} (h : PySem.W.kitOne K (.type "int") (.ref C) = some false) : TyN K C H (.int i) true false := ⟨.type "int", true, .base (.int i), kit_ty (by decide +kernel), rfl, h⟩
/-! Ratio(top, bottom) -/
abbrev s_Ratio_init : Stmt := inClass (top 11) 0
theorem sc_Ratio_init : FnScope ["self", "top", "bottom", "common"] ["self", "top", "bottom"] (defScope s_Ratio_init) := ⟨rfl, rfl, rfl, by decide +kernel, rfl, by decide +kernel, by decide +kernel⟩
def spRInit (C CZ : Addr) : Sp := fun vs H Q E => ∃ x dx n d, vs = [.ref x, .int n, .int d] ∧ H x = some (.ins C dx []) ∧ ((d ≠ 0 ∧ d.natAbs < 2 ^ 9000 ∧ Q .non (upd H x (.ins C dx (ratF (Rat.divInt n d))))) ∨ (d = 0 ∧ E (.ref CZ) none H))
theorem ratF_of {t b : Int} {q : Rat} (h1 : t = q.num) (h2 : b = q.den) : putF "_bottom" (.int b) (putF "_top" (.int t) []) = ratF q := by
  subst h1 h2
  show (if ("_top" : Str) = "_bottom" then _ else (("_top" : Str), V.int q.num) :: putF "_bottom" (V.int q.den) []) = _
  rw [if_neg (by decide +kernel)]
  rfl
theorem ratF_top {q : Rat} : (ratF q).lookup ("_top" : Str) = some (.int q.num) := by unfold ratF; simp [List.lookup]
theorem ratF_bot {q : Rat} : (ratF q).lookup ("_bottom" : Str) = some (.int q.den) := by
  unfold ratF
  have e : (("_bottom" : Str) == "_top") = false := by decide +kernel
  simp [List.lookup, e]
/-- what the written part says of the class -/
structure RatC (K : Fg) (C : Addr) : Prop where
  cl : Cls K C
  nT : NoAttr K C "_top"
  nB : NoAttr K C "_bottom"
  ki : PySem.W.kitOne K (.type "int") (.ref C) = some false
  ca : PySem.W.findIn K (.ref C) "__class__" = some (some (.builtin "object.__class__"))
  cm : PySem.W.mroIn K C (.type "object") = some true
  ci : PySem.W.kitOne K (.ref C) (.type "int") = some false
  cb : PySem.W.kitOne K (.ref C) (.type "bool") = some false
  cc : PySem.W.kitOne K (.ref C) (.ref C) = some true
theorem RatC.ty {H : Hp} {a : Addr} {q : Rat} (T : RatC K C) (r : RatAt C H a q) : TyX K H (.ref a) (.ref C) := by
  obtain ⟨dx, h⟩ := r
  exact .base (.ins h T.cl T.ca (by kernel_rfl) (by kernel_rfl) T.cm)
theorem RatC.tyn {H : Hp} {a : Addr} {q : Rat} (T : RatC K C) (r : RatAt C H a q) : TyN K C H (.ref a) false true := ⟨.ref C, false, T.ty r, T.ci, rfl, T.cc⟩
theorem RatC.num {H : Hp} {v : V} {q : Rat} (T : RatC K C) (r : NumAt C H v q) : ∃ wh rt, TyN K C H v wh rt ∧ (wh || rt) = true := by
  rcases r with ⟨i, rfl, _⟩ | ⟨a, rfl, r⟩
  · exact ⟨true, false, TyN.int T.ki, rfl⟩
  · exact ⟨false, true, T.tyn r, rfl⟩
/-- isinstance(x, int) of an integer -/
theorem int_kit : PySem.W.kitOne K (.type "int") (.type "int") = some true := kit_ty (by decide +kernel)
theorem init_tail {n d : Int} {q : Rat} (hd : d ≠ 0) (e : q = Rat.divInt n d) : (0 < d → (Nat.gcd n.natAbs d.natAbs : Int) = 1 → n = q.num ∧ d = q.den) ∧ (d < 0 → -(Nat.gcd n.natAbs d.natAbs : Int) = 1 → False) := by
  subst e
  refine ⟨fun h g => ?_, fun h g => by omega⟩
  have h1 := fdiv_num n d hd ((Nat.gcd n.natAbs d.natAbs : Nat) : Int) (by rw [if_neg (by omega)])
  have h2 := fdiv_den n d hd ((Nat.gcd n.natAbs d.natAbs : Nat) : Int) (by rw [if_neg (by omega)])
  rw [g, Int.fdiv_one] at h1 h2
  exact ⟨h1, h2⟩
theorem ok_Ratio_init (F : FnP K "__init__" "Ratio.__init__" s_Ratio_init [.int 1] f fd) (T : RatC K C) (m_isinstance : mg "isinstance" = none) (m_int : mg "int" = none) (g_gcd : mg "gcd" = some (.builtin "math.gcd")) (z_ByZero : ExcC K mg "ByZero" CZ) :
    FnX P w K mg base 2 f fd ["self", "top", "bottom"] (spRInit C CZ) := by
  refine F.ok sc_Ratio_init (fun vs H Q E h => ?_) (fun cdv A outer s H vs Q E hr h => ?_)
  · obtain ⟨x, dx, n, d, rfl, _⟩ := h
    rfl
  · obtain ⟨x, dx, n, d, rfl, hx, k⟩ := h
    refine ⟨_, (pss_cons (ps_if (PW.pt (pw_or (pt_not (pt_val (pe_callB call_isi (by rfl) m_isinstance (by decide +kernel) (pa_cons (pv 1) (pa_cons (pe_bltn (v := .ty "int") (by rfl) m_int (by decide +kernel) rfl) pa_nil))))) (pw_or (pt_cmpR op_isAny (pv 1) pe_bl (nomark _)) (pw_or1 (pt_cmpR op_isAny (pv 1) pe_bl (nomark _)))))) (pss_one ps_never) pss_nil)
      (pss_cons (ps_if (PW.pt (pw_or (pt_not (pt_val (pe_callB call_isi (by rfl) m_isinstance (by decide +kernel) (pa_cons (pv 2) (pa_cons (pe_bltn (v := .ty "int") (by rfl) m_int (by decide +kernel) rfl) pa_nil))))) (pw_or (pt_cmpR op_isAny (pv 2) pe_bl (nomark _)) (pw_or1 (pt_cmpR op_isAny (pv 2) pe_bl (nomark _)))))) (pss_one ps_never) pss_nil)
      (pss_cons (ps_if (pt_cmpR op_eq (pv 2) pe_int (nomark _)) (pss_one (ps_raise0 z_ByZero (takes_of rfl rfl rfl rfl))) pss_nil)
      (pss_cons (ps_asg (pe_callBfun cr_gcd (by rfl) g_gcd (pa_cons (pv 1) (pa_cons (pv 2) pa_nil))) (pg_name (i := 3) sc_Ratio_init.nd rfl (.inl rfl)))
      (pss_cons (ps_if (pt_cmpR op_lt (pv 2) pe_int (nomark _)) (pss_one (ps_asg (pe_un un_neg (pv 3)) (pg_name (i := 3) sc_Ratio_init.nd rfl (.inl rfl)))) pss_nil)
      (pss_one (ps_if (pt_cmpR op_eq (pv 3) pe_int (nomark _)) (pss_cons (ps_fld (pv 0) (pv 1) rfl)
      (pss_one (ps_fld (pv 0) (pv 2) rfl))) (pss_cons (ps_fld (pv 0) (pe_op op_divA (pv 1) (pv 3)) rfl)
      (pss_one (ps_fld (pv 0) (pe_op op_divA (pv 2) (pv 3)) rfl)))))))))), ?_⟩
    refine ⟨_, rfl, .int n, .ty "int", .type "int", _, true, rfl, .ty _, (.base (.int _)), int_kit, true, rfl, iteF ⟨_, rfl, true, rfl, false, rfl, iteF ⟨_, rfl, false, rfl, false, rfl, iteF ?_⟩⟩⟩
    refine ⟨_, rfl, .int d, .ty "int", .type "int", _, true, rfl, .ty _, (.base (.int _)), int_kit, true, rfl, iteF ⟨_, rfl, true, rfl, false, rfl, iteF ⟨_, rfl, false, rfl, false, rfl, iteF ?_⟩⟩⟩
    rcases k with ⟨hd, hs, k⟩ | ⟨rfl, k⟩
    rotate_left
    · exact ⟨_, rfl, rfl, true, rfl, iteT k⟩
    refine ⟨_, rfl, rfl, _, rfl, ite2 (fun e => absurd (of_decide_eq_true e) (fun z => hd (V.int.inj z))) fun _ => ?_⟩
    refine ⟨_, rfl, _, rfl, n, d, rfl, ?_⟩
    refine ⟨_, rfl, _, _, rfl, rfl, _, rfl, ?_⟩
    have hl : (Nat.gcd n.natAbs d.natAbs : Int).natAbs < 2 ^ 9000 := Nat.lt_of_le_of_lt (by have := gcd_le n d hd; omega) hs
    have it := init_tail (n := n) hd rfl
    refine ite2 (fun e => ?_) (fun e => ?_)
    · have e := of_decide_eq_true e
      refine ⟨_, rfl, _, rfl, ?_⟩
      refine ⟨_, rfl, rfl, _, rfl, ite2 (fun z => (it.2 e (V.int.inj (of_decide_eq_true z))).elim) fun _ => ?_⟩
      refine ⟨_, rfl, _, rfl, _, _, rfl, rfl, divA (n := 9000) (by have := gcd_ne n d hd; omega) (by rw [Int.natAbs_neg]; exact hl) (by decide), ?_⟩
      refine ⟨_, rfl, x, C, dx, [], rfl, hx, T.cl, T.nT, (by show 0 < 1000; decide), ?_⟩
      refine ⟨_, rfl, _, rfl, _, _, rfl, rfl, divA (n := 9000) (by have := gcd_ne n d hd; omega) (by rw [Int.natAbs_neg]; exact hl) (by decide), ?_⟩
      refine ⟨_, rfl, x, C, dx, _, rfl, upd_same, T.cl, T.nB, (by show 1 < 1000; decide), ?_⟩
      rw [upd_upd]
      exact (congrArg (fun l => Q .non (upd H x (.ins C dx l))) (ratF_of (fdiv_num n d hd _ (by rw [if_pos e])) (fdiv_den n d hd _ (by rw [if_pos e])))).mpr k
    · have e := fun z => e (decide_eq_true z)
      refine ⟨_, rfl, rfl, _, rfl, ite2 (fun z => ?_) fun _ => ?_⟩
      · have hq := it.1 (by have e2 : ¬ d < 0 := e; clear hs hl k; omega) (V.int.inj (of_decide_eq_true z))
        refine ⟨_, rfl, _, rfl, x, C, dx, [], rfl, hx, T.cl, T.nT, (by show 0 < 1000; decide), ?_⟩
        refine ⟨_, rfl, _, rfl, x, C, dx, _, rfl, upd_same, T.cl, T.nB, (by show 1 < 1000; decide), ?_⟩
        rw [upd_upd]
        exact (congrArg (fun l => Q .non (upd H x (.ins C dx l))) (ratF_of hq.1 hq.2)).mpr k
      · refine ⟨_, rfl, _, rfl, _, _, rfl, rfl, divA (n := 9000) (gcd_ne n d hd) hl (by decide), ?_⟩
        refine ⟨_, rfl, x, C, dx, [], rfl, hx, T.cl, T.nT, (by show 0 < 1000; decide), ?_⟩
        refine ⟨_, rfl, _, rfl, _, _, rfl, rfl, divA (n := 9000) (gcd_ne n d hd) hl (by decide), ?_⟩
        refine ⟨_, rfl, x, C, dx, _, rfl, upd_same, T.cl, T.nB, (by show 1 < 1000; decide), ?_⟩
        rw [upd_upd]
        exact (congrArg (fun l => Q .non (upd H x (.ins C dx l))) (ratF_of (fdiv_num n d hd _ (by rw [if_neg e])) (fdiv_den n d hd _ (by rw [if_neg e])))).mpr k
/-- a quotient is made of two integers -/
theorem mk_rat {H : Hp} {Q : VK} {n d : Int} {E : XK} (hd : d ≠ 0) (hs : d.natAbs < 2 ^ 9000) (k : RetRat C H Q (Rat.divInt n d)) (x dx : Addr) (hx : H x = none) (hdx : H dx = none) (ne : dx ≠ x) :
    spRInit C CZ [.ref x, .int n, .int d] (upd (upd H dx (.own x)) x (.ins C dx [])) (fun v H2 => v = .non ∧ Q (.ref x) H2) E := by
  refine ⟨x, dx, n, d, rfl, upd_same, .inl ⟨hd, hs, rfl, ?_⟩⟩
  rw [upd_upd]
  exact k x _ hx ((Ex.new hdx).mut hx) ⟨dx, upd_same⟩
abbrev s_Ratio_top : Stmt := inClass (top 11) 1
theorem sc_Ratio_top : FnScope ["self"] ["self"] (defScope s_Ratio_top) := ⟨rfl, rfl, rfl, by decide +kernel, rfl, by decide +kernel, by decide +kernel⟩
abbrev s_Ratio_bottom : Stmt := inClass (top 11) 2
theorem sc_Ratio_bottom : FnScope ["self"] ["self"] (defScope s_Ratio_bottom) := ⟨rfl, rfl, rfl, by decide +kernel, rfl, by decide +kernel, by decide +kernel⟩
def spTop (C : Addr) : Sp := fun vs H Q _ => ∃ a q, vs = [.ref a] ∧ RatAt C H a q ∧ Q (.int q.num) H
def spBottom (C : Addr) : Sp := fun vs H Q _ => ∃ a q, vs = [.ref a] ∧ RatAt C H a q ∧ Q (.int q.den) H
theorem ok_Ratio_top (F : FnP K "top" "Ratio.top" s_Ratio_top [] f fd) (T : RatC K C) : FnX P w K mg base 1 f fd ["self"] (spTop C) := by
  refine F.ok sc_Ratio_top (fun vs H Q E h => ?_) (fun cdv A outer s H vs Q E hr h => ?_)
  · obtain ⟨a, q, rfl, _⟩ := h
    rfl
  · obtain ⟨a, q, rfl, ⟨dx, ha⟩, k⟩ := h
    refine ⟨_, (pss_one (ps_ret (pe_fld (pv 0) rfl))), ?_⟩
    exact ⟨_, rfl, a, C, dx, _, _, rfl, ha, T.cl, T.nT, ratF_top, k⟩
theorem ok_Ratio_bottom (F : FnP K "bottom" "Ratio.bottom" s_Ratio_bottom [] f fd) (T : RatC K C) : FnX P w K mg base 1 f fd ["self"] (spBottom C) := by
  refine F.ok sc_Ratio_bottom (fun vs H Q E h => ?_) (fun cdv A outer s H vs Q E hr h => ?_)
  · obtain ⟨a, q, rfl, _⟩ := h
    rfl
  · obtain ⟨a, q, rfl, ⟨dx, ha⟩, k⟩ := h
    refine ⟨_, (pss_one (ps_ret (pe_fld (pv 0) rfl))), ?_⟩
    exact ⟨_, rfl, a, C, dx, _, _, rfl, ha, T.cl, T.nB, ratF_bot, k⟩
/-! is_number, as_ratio -/
abbrev s_is_number : Stmt := top 12
theorem sc_is_number : FnScope ["value"] ["value"] (defScope s_is_number) := ⟨rfl, rfl, rfl, by decide +kernel, rfl, by decide +kernel, by decide +kernel⟩
abbrev s_as_ratio : Stmt := top 15
theorem sc_as_ratio : FnScope ["number"] ["number"] (defScope s_as_ratio) := ⟨rfl, rfl, rfl, by decide +kernel, rfl, by decide +kernel, by decide +kernel⟩
def spNumber (K : Fg) (C : Addr) : Sp := fun vs H Q _ => ∃ x wh rt, vs = [x] ∧ TyN K C H x wh rt ∧ Q (.bl (wh || rt)) H
def spAsRatio (C : Addr) : Sp := fun vs H Q _ => ∃ x q, vs = [x] ∧ NumAt C H x q ∧ ∀ b H', Ex H H' → RatAt C H' b q → Q (.ref b) H'
theorem ok_is_number (F : FnP K "is_number" "is_number" s_is_number [] f fd) (c_is_whole : Callee P w K mg base 1 "is_whole" ["value"] (spWhole K C)) (m_isinstance : mg "isinstance" = none) (g_Ratio : mg "Ratio" = some (.ref C)) :
    FnX P w K mg base 2 f fd ["value"] (spNumber K C) := by
  refine F.ok sc_is_number (fun vs H Q E h => ?_) (fun cdv A outer s H vs Q E hr h => ?_)
  · obtain ⟨x, wh, rt, rfl, _⟩ := h
    rfl
  · obtain ⟨x, wh, rt, rfl, ty, k⟩ := h
    obtain ⟨t, bi, tx, h1, e, h3⟩ := ty.ex
    refine ⟨_, (pss_one (ps_ret (pe_or (pe_callB call_isi (by rfl) m_isinstance (by decide +kernel) (pa_cons (pv 0) (pa_cons (pe_glob (v := .ref C) (by rfl) g_Ratio rfl) pa_nil))) (pe_one (pe_callee c_is_whole (hr.mono (by decide)) (pa_cons (pv 0) pa_nil)))))), ?_⟩
    refine ⟨_, rfl, x, .ref C, t, _, rt, rfl, .own C, tx, h3, rt, rfl, ?_⟩
    cases rt with
    | true => exact iteT (by rw [Bool.or_true] at k; exact k)
    | false => exact iteF ⟨_, rfl, _, _, _, rfl, ty, by rw [Bool.or_false] at k; exact k⟩
theorem ok_as_ratio (F : FnP K "as_ratio" "as_ratio" s_as_ratio [] f fd) (T : RatC K C) (m_isinstance : mg "isinstance" = none) (g_Ratio : mg "Ratio" = some (.ref C)) (k_Ratio1 : Maker P w K mg base 2 "Ratio" C ["self", "top", "bottom"] [.int 1] (spRInit C CZ)) :
    FnX P w K mg base 4 f fd ["number"] (spAsRatio C) := by
  refine F.ok sc_as_ratio (fun vs H Q E h => ?_) (fun cdv A outer s H vs Q E hr h => ?_)
  · obtain ⟨x, q, rfl, _⟩ := h
    rfl
  · obtain ⟨x, q, rfl, num, k⟩ := h
    refine ⟨_, (pss_cons (ps_if (pt_val (pe_callB call_isi (by rfl) m_isinstance (by decide +kernel) (pa_cons (pv 0) (pa_cons (pe_glob (v := .ref C) (by rfl) g_Ratio rfl) pa_nil)))) (pss_one (ps_ret (pv 0))) pss_nil)
      (pss_one (ps_ret (pe_maker k_Ratio1 (hr.mono (by decide)) passL (pa_cons (pv 0) pa_nil))))), ?_⟩
    rcases num with ⟨i, rfl, rfl⟩ | ⟨a, rfl, r⟩
    · refine ⟨_, rfl, .int i, .ref C, .type "int", _, false, rfl, .own C, .base (.int i), T.ki, false, rfl, iteF ?_⟩
      refine ⟨_, rfl, fun p dx hp hdx ne => mk_rat (by decide) (by decide) (fun p H' _ e r => k p H' e ?_) p dx hp hdx ne⟩
      rw [int_eq] at r
      exact r
    · refine ⟨_, rfl, .ref a, .ref C, .ref C, _, true, rfl, .own C, T.ty r, T.cc, true, rfl, iteT ?_⟩
      exact ⟨_, rfl, k a H Ex.rfl r⟩
/-! signs -/
theorem sz_mul {i j : Int} {n m : Nat} (h1 : i.natAbs < 2 ^ n) (h2 : j.natAbs < 2 ^ m) (hn : 0 < n ∧ n ≤ 20000) (hm : 0 < m ∧ m ≤ 20000) : CMulW i j := wide_mul h1 h2 hn.1 hm.1 (by omega)
theorem sz_den {n : Nat} {q : Rat} (h : Sz n q) : ((q.den : Int)).natAbs < 2 ^ n := by rw [Int.natAbs_natCast]; exact h.2
theorem den_mul_ne (q r : Rat) : (q.den : Int) * (r.den : Int) ≠ 0 := Int.ne_of_gt (Int.mul_pos (den_pos q) (den_pos r))
theorem den_mul_lt {q r : Rat} (hq : Sz 4000 q) (hr : Sz 4000 r) : ((q.den : Int) * (r.den : Int)).natAbs < 2 ^ 9000 := by
  have h := wide_lt (sz_den hq) (sz_den hr)
  exact Nat.lt_of_lt_of_le h (Nat.pow_le_pow_right (by decide) (by decide))
def spBin (C : Addr) (g : Rat → Rat → Rat) : Sp := fun vs H Q _ => ∃ a y q r, vs = [.ref a, y] ∧ RatAt C H a q ∧ NumAt C H y r ∧ Sz 4000 q ∧ Sz 4000 r ∧ RetRat C H Q (g q r)
theorem add_int (q : Rat) (i : Int) : Rat.divInt (q.num + i * q.den) q.den = q + (i : Rat) := by
  have h := add_eq q (i : Rat)
  rwa [Rat.den_intCast, Rat.num_intCast, Int.natCast_one, Int.mul_one, Int.mul_one] at h
theorem sub_int (q : Rat) (i : Int) : Rat.divInt (q.num - i * q.den) q.den = q - (i : Rat) := by
  have h := sub_eq q (i : Rat)
  rwa [Rat.den_intCast, Rat.num_intCast, Int.natCast_one, Int.mul_one, Int.mul_one] at h
theorem mul_int (q : Rat) (i : Int) : Rat.divInt (q.num * i) q.den = q * (i : Rat) := by
  have h := mul_eq q (i : Rat)
  rwa [Rat.den_intCast, Rat.num_intCast, Int.natCast_one, Int.mul_one] at h
abbrev s_Ratio_add : Stmt := inClass (top 11) 3
theorem sc_Ratio_add : FnScope ["self", "other"] ["self", "other"] (defScope s_Ratio_add) := ⟨rfl, rfl, rfl, by decide +kernel, rfl, by decide +kernel, by decide +kernel⟩
theorem ok_Ratio_add (F : FnP K "__add__" "Ratio.__add__" s_Ratio_add [] f fd) (T : RatC K C) (c_is_whole : Callee P w K mg base 1 "is_whole" ["value"] (spWhole K C)) (m_isinstance : mg "isinstance" = none) (g_Ratio : mg "Ratio" = some (.ref C))
    (k_Ratio2 : Maker P w K mg base 2 "Ratio" C ["self", "top", "bottom"] [] (spRInit C CZ)) :
    FnX P w K mg base 5 f fd ["self", "other"] (spBin C (fun q r => q + r)) := by
  refine F.ok sc_Ratio_add (fun vs H Q E h => ?_) (fun cdv A outer s H vs Q E hr h => ?_)
  · obtain ⟨a, y, q, r, rfl, _⟩ := h
    rfl
  · obtain ⟨a, y, q, r, rfl, ⟨dx, ha⟩, hn, zq, zr, k⟩ := h
    refine ⟨_, (pss_cons (ps_if (pt_val (pe_callB call_isi (by rfl) m_isinstance (by decide +kernel) (pa_cons (pv 1) (pa_cons (pe_glob (v := .ref C) (by rfl) g_Ratio rfl) pa_nil)))) (pss_one (ps_ret (pe_maker k_Ratio2 (hr.mono (by decide)) passL (pa_cons (pe_op op_add (pe_op op_mulW (pe_fld (pv 0) rfl) (pe_fld (pv 1) rfl)) (pe_op op_mulW (pe_fld (pv 1) rfl) (pe_fld (pv 0) rfl))) (pa_cons (pe_op op_mulW (pe_fld (pv 0) rfl) (pe_fld (pv 1) rfl)) pa_nil))))) pss_nil)
      (pss_cons (ps_if (pt_val (pe_callee c_is_whole (hr.mono (by decide)) (pa_cons (pv 1) pa_nil))) (pss_one (ps_ret (pe_maker k_Ratio2 (hr.mono (by decide)) passL (pa_cons (pe_op op_add (pe_fld (pv 0) rfl) (pe_op op_mulW (pv 1) (pe_fld (pv 0) rfl))) (pa_cons (pe_fld (pv 0) rfl) pa_nil))))) pss_nil)
      (pss_one ps_never))), ?_⟩
    rcases hn with ⟨i, rfl, rfl⟩ | ⟨b, rfl, hr'⟩
    · refine ⟨_, rfl, .int i, .ref C, .type "int", _, false, rfl, .own C, .base (.int i), T.ki, false, rfl, iteF ?_⟩
      refine ⟨_, rfl, _, _, _, rfl, TyN.int T.ki, true, rfl, iteT ?_⟩
      have zi : i.natAbs < 2 ^ 4000 := by have := zr.1; rwa [Rat.num_intCast] at this
      refine ⟨_, rfl, a, C, dx, _, _, rfl, ha, T.cl, T.nT, ratF_top, _, rfl, _, rfl, a, C, dx, _, _, rfl, ha, T.cl, T.nB, ratF_bot, _, _, rfl, rfl, sz_mul zi (sz_den zq) (by decide) (by decide), _, _, rfl, rfl, ?_⟩
      refine ⟨_, rfl, a, C, dx, _, _, rfl, ha, T.cl, T.nB, ratF_bot, ?_⟩
      refine fun p dp hp hdp ne => mk_rat (by have := den_pos q; omega) (Nat.lt_of_lt_of_le (sz_den zq) (Nat.pow_le_pow_right (by decide) (by decide))) (fun p H' n e h => k p H' n e ?_) p dp hp hdp ne
      rw [add_int] at h
      exact h
    · refine ⟨_, rfl, .ref b, .ref C, .ref C, _, true, rfl, .own C, T.ty hr', T.cc, true, rfl, iteT ?_⟩
      obtain ⟨dy, hb⟩ := hr'
      refine ⟨_, rfl, a, C, dx, _, _, rfl, ha, T.cl, T.nT, ratF_top, _, rfl, b, C, dy, _, _, rfl, hb, T.cl, T.nB, ratF_bot, _, _, rfl, rfl, sz_mul zq.1 (sz_den zr) (by decide) (by decide), ?_⟩
      refine ⟨_, rfl, b, C, dy, _, _, rfl, hb, T.cl, T.nT, ratF_top, _, rfl, a, C, dx, _, _, rfl, ha, T.cl, T.nB, ratF_bot, _, _, rfl, rfl, sz_mul zr.1 (sz_den zq) (by decide) (by decide), _, _, rfl, rfl, ?_⟩
      refine ⟨_, rfl, a, C, dx, _, _, rfl, ha, T.cl, T.nB, ratF_bot, _, rfl, b, C, dy, _, _, rfl, hb, T.cl, T.nB, ratF_bot, _, _, rfl, rfl, sz_mul (sz_den zq) (sz_den zr) (by decide) (by decide), ?_⟩
      refine fun p dp hp hdp ne => mk_rat (den_mul_ne q r) (den_mul_lt zq zr) (fun p H' n e h => k p H' n e ?_) p dp hp hdp ne
      rw [add_eq] at h
      exact h
abbrev s_Ratio_sub : Stmt := inClass (top 11) 4
theorem sc_Ratio_sub : FnScope ["self", "other"] ["self", "other"] (defScope s_Ratio_sub) := ⟨rfl, rfl, rfl, by decide +kernel, rfl, by decide +kernel, by decide +kernel⟩
theorem ok_Ratio_sub (F : FnP K "__sub__" "Ratio.__sub__" s_Ratio_sub [] f fd) (T : RatC K C) (c_is_whole : Callee P w K mg base 1 "is_whole" ["value"] (spWhole K C)) (m_isinstance : mg "isinstance" = none) (g_Ratio : mg "Ratio" = some (.ref C))
    (k_Ratio2 : Maker P w K mg base 2 "Ratio" C ["self", "top", "bottom"] [] (spRInit C CZ)) :
    FnX P w K mg base 5 f fd ["self", "other"] (spBin C (fun q r => q - r)) := by
  refine F.ok sc_Ratio_sub (fun vs H Q E h => ?_) (fun cdv A outer s H vs Q E hr h => ?_)
  · obtain ⟨a, y, q, r, rfl, _⟩ := h
    rfl
  · obtain ⟨a, y, q, r, rfl, ⟨dx, ha⟩, hn, zq, zr, k⟩ := h
    refine ⟨_, (pss_cons (ps_if (pt_val (pe_callB call_isi (by rfl) m_isinstance (by decide +kernel) (pa_cons (pv 1) (pa_cons (pe_glob (v := .ref C) (by rfl) g_Ratio rfl) pa_nil)))) (pss_one (ps_ret (pe_maker k_Ratio2 (hr.mono (by decide)) passL (pa_cons (pe_op op_sub (pe_op op_mulW (pe_fld (pv 0) rfl) (pe_fld (pv 1) rfl)) (pe_op op_mulW (pe_fld (pv 1) rfl) (pe_fld (pv 0) rfl))) (pa_cons (pe_op op_mulW (pe_fld (pv 0) rfl) (pe_fld (pv 1) rfl)) pa_nil))))) pss_nil)
      (pss_cons (ps_if (pt_val (pe_callee c_is_whole (hr.mono (by decide)) (pa_cons (pv 1) pa_nil))) (pss_one (ps_ret (pe_maker k_Ratio2 (hr.mono (by decide)) passL (pa_cons (pe_op op_sub (pe_fld (pv 0) rfl) (pe_op op_mulW (pv 1) (pe_fld (pv 0) rfl))) (pa_cons (pe_fld (pv 0) rfl) pa_nil))))) pss_nil)
      (pss_one ps_never))), ?_⟩
    rcases hn with ⟨i, rfl, rfl⟩ | ⟨b, rfl, hr'⟩
    · refine ⟨_, rfl, .int i, .ref C, .type "int", _, false, rfl, .own C, .base (.int i), T.ki, false, rfl, iteF ?_⟩
      refine ⟨_, rfl, _, _, _, rfl, TyN.int T.ki, true, rfl, iteT ?_⟩
      have zi : i.natAbs < 2 ^ 4000 := by have := zr.1; rwa [Rat.num_intCast] at this
      refine ⟨_, rfl, a, C, dx, _, _, rfl, ha, T.cl, T.nT, ratF_top, _, rfl, _, rfl, a, C, dx, _, _, rfl, ha, T.cl, T.nB, ratF_bot, _, _, rfl, rfl, sz_mul zi (sz_den zq) (by decide) (by decide), _, _, rfl, rfl, ?_⟩
      refine ⟨_, rfl, a, C, dx, _, _, rfl, ha, T.cl, T.nB, ratF_bot, ?_⟩
      refine fun p dp hp hdp ne => mk_rat (by have := den_pos q; omega) (Nat.lt_of_lt_of_le (sz_den zq) (Nat.pow_le_pow_right (by decide) (by decide))) (fun p H' n e h => k p H' n e ?_) p dp hp hdp ne
      rw [sub_int] at h
      exact h
    · refine ⟨_, rfl, .ref b, .ref C, .ref C, _, true, rfl, .own C, T.ty hr', T.cc, true, rfl, iteT ?_⟩
      obtain ⟨dy, hb⟩ := hr'
      refine ⟨_, rfl, a, C, dx, _, _, rfl, ha, T.cl, T.nT, ratF_top, _, rfl, b, C, dy, _, _, rfl, hb, T.cl, T.nB, ratF_bot, _, _, rfl, rfl, sz_mul zq.1 (sz_den zr) (by decide) (by decide), ?_⟩
      refine ⟨_, rfl, b, C, dy, _, _, rfl, hb, T.cl, T.nT, ratF_top, _, rfl, a, C, dx, _, _, rfl, ha, T.cl, T.nB, ratF_bot, _, _, rfl, rfl, sz_mul zr.1 (sz_den zq) (by decide) (by decide), _, _, rfl, rfl, ?_⟩
      refine ⟨_, rfl, a, C, dx, _, _, rfl, ha, T.cl, T.nB, ratF_bot, _, rfl, b, C, dy, _, _, rfl, hb, T.cl, T.nB, ratF_bot, _, _, rfl, rfl, sz_mul (sz_den zq) (sz_den zr) (by decide) (by decide), ?_⟩
      refine fun p dp hp hdp ne => mk_rat (den_mul_ne q r) (den_mul_lt zq zr) (fun p H' n e h => k p H' n e ?_) p dp hp hdp ne
      rw [sub_eq] at h
      exact h
abbrev s_Ratio_mul : Stmt := inClass (top 11) 5
theorem sc_Ratio_mul : FnScope ["self", "other"] ["self", "other"] (defScope s_Ratio_mul) := ⟨rfl, rfl, rfl, by decide +kernel, rfl, by decide +kernel, by decide +kernel⟩
theorem ok_Ratio_mul (F : FnP K "__mul__" "Ratio.__mul__" s_Ratio_mul [] f fd) (T : RatC K C) (c_is_whole : Callee P w K mg base 1 "is_whole" ["value"] (spWhole K C)) (m_isinstance : mg "isinstance" = none) (g_Ratio : mg "Ratio" = some (.ref C))
    (k_Ratio2 : Maker P w K mg base 2 "Ratio" C ["self", "top", "bottom"] [] (spRInit C CZ)) :
    FnX P w K mg base 5 f fd ["self", "other"] (spBin C (fun q r => q * r)) := by
  refine F.ok sc_Ratio_mul (fun vs H Q E h => ?_) (fun cdv A outer s H vs Q E hr h => ?_)
  · obtain ⟨a, y, q, r, rfl, _⟩ := h
    rfl
  · obtain ⟨a, y, q, r, rfl, ⟨dx, ha⟩, hn, zq, zr, k⟩ := h
    refine ⟨_, (pss_cons (ps_if (pt_val (pe_callB call_isi (by rfl) m_isinstance (by decide +kernel) (pa_cons (pv 1) (pa_cons (pe_glob (v := .ref C) (by rfl) g_Ratio rfl) pa_nil)))) (pss_one (ps_ret (pe_maker k_Ratio2 (hr.mono (by decide)) passL (pa_cons (pe_op op_mulW (pe_fld (pv 0) rfl) (pe_fld (pv 1) rfl)) (pa_cons (pe_op op_mulW (pe_fld (pv 0) rfl) (pe_fld (pv 1) rfl)) pa_nil))))) pss_nil)
      (pss_cons (ps_if (pt_val (pe_callee c_is_whole (hr.mono (by decide)) (pa_cons (pv 1) pa_nil))) (pss_one (ps_ret (pe_maker k_Ratio2 (hr.mono (by decide)) passL (pa_cons (pe_op op_mulW (pe_fld (pv 0) rfl) (pv 1)) (pa_cons (pe_fld (pv 0) rfl) pa_nil))))) pss_nil)
      (pss_one ps_never))), ?_⟩
    rcases hn with ⟨i, rfl, rfl⟩ | ⟨b, rfl, hr'⟩
    · refine ⟨_, rfl, .int i, .ref C, .type "int", _, false, rfl, .own C, .base (.int i), T.ki, false, rfl, iteF ?_⟩
      refine ⟨_, rfl, _, _, _, rfl, TyN.int T.ki, true, rfl, iteT ?_⟩
      have zi : i.natAbs < 2 ^ 4000 := by have := zr.1; rwa [Rat.num_intCast] at this
      refine ⟨_, rfl, a, C, dx, _, _, rfl, ha, T.cl, T.nT, ratF_top, _, rfl, _, _, rfl, rfl, sz_mul zq.1 zi (by decide) (by decide), ?_⟩
      refine ⟨_, rfl, a, C, dx, _, _, rfl, ha, T.cl, T.nB, ratF_bot, ?_⟩
      refine fun p dp hp hdp ne => mk_rat (by have := den_pos q; omega) (Nat.lt_of_lt_of_le (sz_den zq) (Nat.pow_le_pow_right (by decide) (by decide))) (fun p H' n e h => k p H' n e ?_) p dp hp hdp ne
      rw [mul_int] at h
      exact h
    · refine ⟨_, rfl, .ref b, .ref C, .ref C, _, true, rfl, .own C, T.ty hr', T.cc, true, rfl, iteT ?_⟩
      obtain ⟨dy, hb⟩ := hr'
      refine ⟨_, rfl, a, C, dx, _, _, rfl, ha, T.cl, T.nT, ratF_top, _, rfl, b, C, dy, _, _, rfl, hb, T.cl, T.nT, ratF_top, _, _, rfl, rfl, sz_mul zq.1 zr.1 (by decide) (by decide), ?_⟩
      refine ⟨_, rfl, a, C, dx, _, _, rfl, ha, T.cl, T.nB, ratF_bot, _, rfl, b, C, dy, _, _, rfl, hb, T.cl, T.nB, ratF_bot, _, _, rfl, rfl, sz_mul (sz_den zq) (sz_den zr) (by decide) (by decide), ?_⟩
      refine fun p dp hp hdp ne => mk_rat (den_mul_ne q r) (den_mul_lt zq zr) (fun p H' n e h => k p H' n e ?_) p dp hp hdp ne
      rw [mul_eq] at h
      exact h
abbrev s_Ratio_neg : Stmt := inClass (top 11) 6
theorem sc_Ratio_neg : FnScope ["self"] ["self"] (defScope s_Ratio_neg) := ⟨rfl, rfl, rfl, by decide +kernel, rfl, by decide +kernel, by decide +kernel⟩
def spNeg (C : Addr) : Sp := fun vs H Q _ => ∃ a q, vs = [.ref a] ∧ RatAt C H a q ∧ Sz 9000 q ∧ RetRat C H Q (-q)
theorem ok_Ratio_neg (F : FnP K "__neg__" "Ratio.__neg__" s_Ratio_neg [] f fd) (T : RatC K C) (k_Ratio2 : Maker P w K mg base 2 "Ratio" C ["self", "top", "bottom"] [] (spRInit C CZ)) : FnX P w K mg base 5 f fd ["self"] (spNeg C) := by
  refine F.ok sc_Ratio_neg (fun vs H Q E h => ?_) (fun cdv A outer s H vs Q E hr h => ?_)
  · obtain ⟨a, q, rfl, _⟩ := h
    rfl
  · obtain ⟨a, q, rfl, ⟨dx, ha⟩, z, k⟩ := h
    refine ⟨_, (pss_one (ps_ret (pe_maker k_Ratio2 (hr.mono (by decide)) passL (pa_cons (pe_un un_neg (pe_fld (pv 0) rfl)) (pa_cons (pe_fld (pv 0) rfl) pa_nil))))), ?_⟩
    refine ⟨_, rfl, a, C, dx, _, _, rfl, ha, T.cl, T.nT, ratF_top, _, rfl, _, rfl, a, C, dx, _, _, rfl, ha, T.cl, T.nB, ratF_bot, ?_⟩
    refine fun p dp hp hdp ne => mk_rat (by have := den_pos q; omega) (sz_den z) (fun p H' n e h => k p H' n e ?_) p dp hp hdp ne
    rw [neg_eq] at h
    exact h
abbrev s_Ratio_below : Stmt := inClass (top 11) 8
theorem sc_Ratio_below : FnScope ["self", "number"] ["self", "number"] (defScope s_Ratio_below) := ⟨rfl, rfl, rfl, by decide +kernel, rfl, by decide +kernel, by decide +kernel⟩
def spBelow (C : Addr) : Sp := fun vs H Q _ => ∃ a y q r, vs = [.ref a, y] ∧ RatAt C H a q ∧ NumAt C H y r ∧ Sz 9000 q ∧ Sz 9000 r ∧ ∀ H', Ex H H' → Q (.bl (decide (q < r))) H'
theorem lt_dec (q r : Rat) : decide (q.num * r.den < r.num * q.den) = decide (q < r) := by
  rw [decide_eq_decide]
  exact (Rat.lt_iff q r).symm
theorem lt_dec_int (q : Rat) (i : Int) : decide (q.num < i * q.den) = decide (q < (i : Rat)) := by
  have h := lt_dec q (i : Rat)
  rwa [Rat.den_intCast, Rat.num_intCast, Int.natCast_one, Int.mul_one] at h
theorem ok_Ratio_below (F : FnP K "below" "Ratio.below" s_Ratio_below [] f fd) (T : RatC K C) (c_is_whole : Callee P w K mg base 1 "is_whole" ["value"] (spWhole K C)) (m_isinstance : mg "isinstance" = none) (g_Ratio : mg "Ratio" = some (.ref C)) :
    FnX P w K mg base 2 f fd ["self", "number"] (spBelow C) := by
  refine F.ok sc_Ratio_below (fun vs H Q E h => ?_) (fun cdv A outer s H vs Q E hr h => ?_)
  · obtain ⟨a, y, q, r, rfl, _⟩ := h
    rfl
  · obtain ⟨a, y, q, r, rfl, ⟨dx, ha⟩, hn, zq, zr, k⟩ := h
    refine ⟨_, (pss_cons (ps_if (pt_val (pe_callB call_isi (by rfl) m_isinstance (by decide +kernel) (pa_cons (pv 1) (pa_cons (pe_glob (v := .ref C) (by rfl) g_Ratio rfl) pa_nil)))) (pss_one (ps_ret (pe_cmpR op_lt (pe_op op_mulW (pe_fld (pv 0) rfl) (pe_fld (pv 1) rfl)) (pe_op op_mulW (pe_fld (pv 1) rfl) (pe_fld (pv 0) rfl)) (nomark _)))) pss_nil)
      (pss_cons (ps_if (pt_not (pt_val (pe_callee c_is_whole (hr.mono (by decide)) (pa_cons (pv 1) pa_nil)))) (pss_one ps_never) pss_nil)
      (pss_one (ps_ret (pe_cmpR op_lt (pe_fld (pv 0) rfl) (pe_op op_mulW (pv 1) (pe_fld (pv 0) rfl)) (nomark _)))))), ?_⟩
    have z := k H Ex.rfl
    rcases hn with ⟨i, rfl, rfl⟩ | ⟨b, rfl, hr'⟩
    · refine ⟨_, rfl, .int i, .ref C, .type "int", _, false, rfl, .own C, .base (.int i), T.ki, false, rfl, iteF ?_⟩
      refine ⟨_, rfl, _, _, _, rfl, TyN.int T.ki, true, rfl, iteF ?_⟩
      have zi : i.natAbs < 2 ^ 9000 := by have := zr.1; rwa [Rat.num_intCast] at this
      refine ⟨_, rfl, a, C, dx, _, _, rfl, ha, T.cl, T.nT, ratF_top, _, rfl, _, rfl, a, C, dx, _, _, rfl, ha, T.cl, T.nB, ratF_bot, _, _, rfl, rfl, sz_mul zi (sz_den zq) (by decide) (by decide), _, _, rfl, rfl, ?_⟩
      rw [← lt_dec_int] at z
      exact z
    · refine ⟨_, rfl, .ref b, .ref C, .ref C, _, true, rfl, .own C, T.ty hr', T.cc, true, rfl, iteT ?_⟩
      obtain ⟨dy, hb⟩ := hr'
      refine ⟨_, rfl, a, C, dx, _, _, rfl, ha, T.cl, T.nT, ratF_top, _, rfl, b, C, dy, _, _, rfl, hb, T.cl, T.nB, ratF_bot, _, _, rfl, rfl, sz_mul zq.1 (sz_den zr) (by decide) (by decide), ?_⟩
      refine ⟨_, rfl, b, C, dy, _, _, rfl, hb, T.cl, T.nT, ratF_top, _, rfl, a, C, dx, _, _, rfl, ha, T.cl, T.nB, ratF_bot, _, _, rfl, rfl, sz_mul zr.1 (sz_den zq) (by decide) (by decide), _, _, rfl, rfl, ?_⟩
      rw [← lt_dec] at z
      exact z
abbrev s_Ratio_eq : Stmt := inClass (top 11) 7
theorem sc_Ratio_eq : FnScope ["self", "other"] ["self", "other"] (defScope s_Ratio_eq) := ⟨rfl, rfl, rfl, by decide +kernel, rfl, by decide +kernel, by decide +kernel⟩
def spEqR (K : Fg) (C : Addr) : Sp := fun vs H Q _ => ∃ a y q, vs = [.ref a, y] ∧ RatAt C H a q ∧ ((∃ r, NumAt C H y r ∧ Q (.bl (decide (q = r))) H) ∨ (TyN K C H y false false ∧ Q (.bl false) H))
theorem eq_dec (q r : Rat) : (decide (V.int q.num = V.int r.num) && decide (V.int (q.den : Int) = V.int (r.den : Int))) = decide (q = r) := by
  rw [← Bool.decide_and, decide_eq_decide]
  constructor
  · rintro ⟨h1, h2⟩
    have h3 := V.int.inj h2
    exact Rat.ext (V.int.inj h1) (by omega)
  · rintro rfl
    exact ⟨rfl, rfl⟩
theorem eq_int (q : Rat) (i : Int) : (decide (V.int (q.den : Int) = V.int 1) && decide (V.int q.num = V.int i)) = decide (q = (i : Rat)) := by
  rw [← Bool.decide_and, decide_eq_decide]
  constructor
  · rintro ⟨h1, h2⟩
    have h3 := V.int.inj h1
    exact Rat.ext (by rw [Rat.num_intCast]; exact V.int.inj h2) (by rw [Rat.den_intCast]; omega)
  · rintro rfl
    rw [Rat.num_intCast, Rat.den_intCast]
    exact ⟨rfl, rfl⟩
theorem ok_Ratio_eq (F : FnP K "__eq__" "Ratio.__eq__" s_Ratio_eq [] f fd) (T : RatC K C) (c_is_whole : Callee P w K mg base 1 "is_whole" ["value"] (spWhole K C)) (m_isinstance : mg "isinstance" = none) (g_Ratio : mg "Ratio" = some (.ref C)) : FnX P w K mg base 3 f fd ["self", "other"] (spEqR K C) := by
  refine F.ok sc_Ratio_eq (fun vs H Q E h => ?_) (fun cdv A outer s H vs Q E hr h => ?_)
  · obtain ⟨a, y, q, rfl, _⟩ := h
    rfl
  · obtain ⟨a, y, q, rfl, ⟨dx, ha⟩, k⟩ := h
    refine ⟨_, (pss_cons (ps_if (pt_val (pe_callB call_isi (by rfl) m_isinstance (by decide +kernel) (pa_cons (pv 1) (pa_cons (pe_glob (v := .ref C) (by rfl) g_Ratio rfl) pa_nil)))) (pss_one (ps_ret (pe_and (pe_cmpR op_eq (pe_fld (pv 0) rfl) (pe_fld (pv 1) rfl) (nomark _)) (pe_one (pe_cmpR op_eq (pe_fld (pv 0) rfl) (pe_fld (pv 1) rfl) (nomark _)))))) pss_nil)
      (pss_one (ps_ret (pe_and (pe_callee c_is_whole (hr.mono (by decide)) (pa_cons (pv 1) pa_nil)) (pe_and (pe_cmpR op_eq (pe_fld (pv 0) rfl) pe_int (nomark _)) (pe_one (pe_cmpR op_eq (pe_fld (pv 0) rfl) (pv 1) (nomark _)))))))), ?_⟩
    rcases k with ⟨r, hn, k⟩ | ⟨ty, k⟩
    · rcases hn with ⟨i, rfl, rfl⟩ | ⟨b, rfl, hr'⟩
      · refine ⟨_, rfl, .int i, .ref C, .type "int", _, false, rfl, .own C, .base (.int i), T.ki, false, rfl, iteF ?_⟩
        refine ⟨_, rfl, _, _, _, rfl, TyN.int T.ki, true, rfl, iteT ?_⟩
        refine ⟨_, rfl, a, C, dx, _, _, rfl, ha, T.cl, T.nB, ratF_bot, rfl, _, rfl, ?_⟩
        have z := eq_int q i
        cases e : decide (V.int (q.den : Int) = V.int 1) with
        | false =>
          rw [e, Bool.false_and] at z
          rw [← z] at k
          exact iteF k
        | true =>
          rw [e, Bool.true_and] at z
          rw [← z] at k
          exact iteT ⟨_, rfl, a, C, dx, _, _, rfl, ha, T.cl, T.nT, ratF_top, _, rfl, rfl, k⟩
      · refine ⟨_, rfl, .ref b, .ref C, .ref C, _, true, rfl, .own C, T.ty hr', T.cc, true, rfl, iteT ?_⟩
        obtain ⟨dy, hb⟩ := hr'
        refine ⟨_, rfl, a, C, dx, _, _, rfl, ha, T.cl, T.nT, ratF_top, _, rfl, b, C, dy, _, _, rfl, hb, T.cl, T.nT, ratF_top, rfl, _, rfl, ?_⟩
        have z := eq_dec q r
        cases e : decide (V.int q.num = V.int r.num) with
        | false =>
          rw [e, Bool.false_and] at z
          rw [← z] at k
          exact iteF k
        | true =>
          rw [e, Bool.true_and] at z
          rw [← z] at k
          exact iteT ⟨_, rfl, a, C, dx, _, _, rfl, ha, T.cl, T.nB, ratF_bot, _, rfl, b, C, dy, _, _, rfl, hb, T.cl, T.nB, ratF_bot, rfl, k⟩
    · obtain ⟨t, bi, tx, h1, e, h3⟩ := ty.ex
      refine ⟨_, rfl, y, .ref C, t, _, false, rfl, .own C, tx, h3, false, rfl, iteF ?_⟩
      exact ⟨_, rfl, _, _, _, rfl, ty, false, rfl, iteF k⟩
abbrev s_Ratio_over : Stmt := inClass (top 11) 9
theorem sc_Ratio_over : FnScope ["self", "number", "right"] ["self", "number"] (defScope s_Ratio_over) := ⟨rfl, rfl, rfl, by decide +kernel, rfl, by decide +kernel, by decide +kernel⟩
/-- over: a quotient, or, by 0, what the class at CZ says -/
def spOver (C CZ : Addr) : Sp := fun vs H Q E => ∃ a y q r, vs = [.ref a, y] ∧ RatAt C H a q ∧ NumAt C H y r ∧ Sz 4000 q ∧ Sz 4000 r ∧ (r ≠ 0 → RetRat C H Q (q / r)) ∧ (r = 0 → ∀ H', Ex H H' → E (.ref CZ) none H')
theorem ok_Ratio_over (F : FnP K "over" "Ratio.over" s_Ratio_over [] f fd) (T : RatC K C) (c_as_ratio : Callee P w K mg base 4 "as_ratio" ["number"] (spAsRatio C)) (k_Ratio2 : Maker P w K mg base 2 "Ratio" C ["self", "top", "bottom"] [] (spRInit C CZ))
    (p_top : Getter P w K mg base 1 C "top" (spTop C)) (p_bottom : Getter P w K mg base 1 C "bottom" (spBottom C)) : FnX P w K mg base 5 f fd ["self", "number"] (spOver C CZ) := by
  refine F.ok sc_Ratio_over (fun vs H Q E h => ?_) (fun cdv A outer s H vs Q E hr h => ?_)
  · obtain ⟨a, y, q, r, rfl, _⟩ := h
    rfl
  · obtain ⟨a, y, q, r, rfl, ⟨dx, ha⟩, hn, zq, zr, k, kz⟩ := h
    refine ⟨_, (pss_cons (ps_asg (pe_callee c_as_ratio (hr.mono (by decide)) (pa_cons (pv 1) pa_nil)) (pg_name (i := 2) sc_Ratio_over.nd rfl (.inl rfl)))
      (pss_one (ps_ret (pe_maker k_Ratio2 (hr.mono (by decide)) (passes_call (takes_of rfl rfl rfl rfl) fun _ _ _ _ h => h) (pa_cons (pe_op op_mulW (pe_fld (pv 0) rfl) (pe_getter p_bottom (hr.mono (by decide)) (pv 2))) (pa_cons (pe_op op_mulW (pe_fld (pv 0) rfl) (pe_getter p_top (hr.mono (by decide)) (pv 2))) pa_nil)))))), ?_⟩
    refine ⟨_, rfl, y, r, rfl, hn, fun b H1 e1 rb => ?_⟩
    obtain ⟨dy, hb⟩ := rb
    have ha1 := e1 _ _ ha
    refine ⟨_, rfl, a, C, dx, _, _, rfl, ha1, T.cl, T.nT, ratF_top, _, rfl, b, dy, _, rfl, hb, b, r, rfl, ⟨dy, hb⟩, _, _, rfl, rfl, sz_mul zq.1 (sz_den zr) (by decide) (by decide), ?_⟩
    refine ⟨_, rfl, a, C, dx, _, _, rfl, ha1, T.cl, T.nB, ratF_bot, _, rfl, b, dy, _, rfl, hb, b, r, rfl, ⟨dy, hb⟩, _, _, rfl, rfl, sz_mul (sz_den zq) zr.1 (by decide) (by decide), ?_⟩
    have hz : (q.den : Int) * r.num = 0 ↔ r = 0 := by
      have := den_pos q
      rw [Int.mul_eq_zero, Rat.num_eq_zero]
      exact ⟨fun h => h.resolve_left (by omega), .inr⟩
    by_cases h0 : r = 0
    · refine fun p dp hp hdp ne => ⟨p, dp, _, _, rfl, upd_same, .inr ⟨hz.mpr h0, ?_⟩⟩
      exact kz h0 _ (e1.trans ((Ex.new hdp).mut hp))
    · refine fun p dp hp hdp ne => mk_rat (fun z => h0 (hz.mp z)) ?_ (fun p H' n e h => k h0 p H' (e1.free n) (e1.trans e) ?_) p dp hp hdp ne
      · have h := wide_lt (sz_den zq) zr.1
        exact Nat.lt_of_lt_of_le h (Nat.pow_le_pow_right (by decide) (by decide))
      · rw [over_eq] at h
        exact h
theorem ratF_no {m : Str} {q : Rat} (h1 : (m == ("_top" : Str)) = false) (h2 : (m == ("_bottom" : Str)) = false) : (ratF q).lookup m = none := by unfold ratF; simp [List.lookup, h1, h2]
/-! lists of numbers -/
abbrev s_is_list : Stmt := top 8
theorem sc_is_list : FnScope ["value"] ["value"] (defScope s_is_list) := ⟨rfl, rfl, rfl, by decide +kernel, rfl, by decide +kernel, by decide +kernel⟩
abbrev s__check_numbers : Stmt := top 22
theorem sc__check_numbers : FnScope ["numbers", "number"] ["numbers"] (defScope s__check_numbers) := ⟨rfl, rfl, rfl, by decide +kernel, rfl, by decide +kernel, by decide +kernel⟩
abbrev s__check_some_numbers : Stmt := top 23
theorem sc__check_some_numbers : FnScope ["numbers"] ["numbers"] (defScope s__check_some_numbers) := ⟨rfl, rfl, rfl, by decide +kernel, rfl, by decide +kernel, by decide +kernel⟩
def spIsList (K : Fg) : Sp := fun vs H Q _ => ∃ l t b, vs = [.ref l] ∧ TyX K H (.ref l) t ∧ PySem.W.kitAny K t [.type "list", .type "tuple"] = some b ∧ ∀ H', Ex H H' → Q (.bl b) H'
theorem seqTy {H : Hp} {l : Addr} {xs : List V} (h : SqX K H l xs) : ∃ t, TyX K H (.ref l) t ∧ PySem.W.kitAny K t [.type "list", .type "tuple"] = some true := by
  have e1 : PySem.W.kitAny K (.type "list") [.type "list", .type "tuple"] = some true := by rfl
  have e2 : PySem.W.kitAny K (.type "tuple") [.type "list", .type "tuple"] = some true := by
    refine kitAny_cons (b := false) (kit_ty (by decide +kernel)) (fun _ => kitAny_cons (b := true) (kit_ty (by decide +kernel)) (fun z => nomatch z) (fun _ => rfl)) (fun z => nomatch z)
  rcases h with h | h
  · rcases h with (h | ⟨o, h⟩) | ⟨o, its, n, h, hc, _⟩
    · exact ⟨_, .base (.lst h), e1⟩
    · exact ⟨_, .base (.frz h), e1⟩
    · exact ⟨_, .kList h hc, e1⟩
  · rcases h with (h | ⟨o, h⟩) | ⟨o, its, n, h, hc, _⟩
    · exact ⟨_, .base (.tup h), e2⟩
    · exact ⟨_, .fTuple h, e2⟩
    · exact ⟨_, .kTuple h hc, e2⟩
theorem ok_is_list (F : FnP K "is_list" "is_list" s_is_list [] f fd) (m_isinstance : mg "isinstance" = none) (m_list : mg "list" = none) (m_tuple : mg "tuple" = none) : FnX P w K mg base 1 f fd ["value"] (spIsList K) := by
  refine F.ok sc_is_list (fun vs H Q E h => ?_) (fun cdv A outer s H vs Q E hr h => ?_)
  · obtain ⟨l, t, b, rfl, _⟩ := h
    rfl
  · obtain ⟨l, t, b, rfl, ty, hk, k⟩ := h
    refine ⟨_, (pss_one (ps_ret (pe_callB call_isiT (by rfl) m_isinstance (by decide +kernel) (pa_cons (pv 0) (pa_cons (pe_tup (pa_cons (pe_bltn (v := .ty "list") (by rfl) m_list (by decide +kernel) rfl) (pa_cons (pe_bltn (v := .ty "tuple") (by rfl) m_tuple (by decide +kernel) rfl) pa_nil))) pa_nil))))), ?_⟩
    exact ⟨_, rfl, (by show 2 ≤ sizeLine; decide), fun p hp => ⟨_, p, _, t, _, b, rfl, upd_same, .cons (.ty _) (.cons (.ty _) .nil), TyX_new ty hp, hk, k _ (Ex.new hp)⟩⟩
def spCheck (K : Fg) (C : Addr) : Sp := fun vs H Q _ => ∃ l xs qs, vs = [.ref l] ∧ SqX K H l xs ∧ NumsAt C H xs qs ∧ xs.length ≤ 6000 ∧ ∀ H', Ex H H' → Q .non H'
def spCheckSome (K : Fg) (C : Addr) : Sp := fun vs H Q _ => ∃ l xs qs, vs = [.ref l] ∧ SqX K H l xs ∧ NumsAt C H xs qs ∧ xs.length ≤ 6000 ∧ 0 < xs.length ∧ ∀ H', Ex H H' → Q .non H'
theorem ok_check_numbers (F : FnP K "_check_numbers" "_check_numbers" s__check_numbers [] f fd) (T : RatC K C) (c_is_list : Callee P w K mg base 1 "is_list" ["value"] (spIsList K)) (c_is_number : Callee P w K mg base 2 "is_number" ["value"] (spNumber K C)) (m_all : mg "all" = none) :
    FnX P w K mg base 4 f fd ["numbers"] (spCheck K C) := by
  refine F.ok sc__check_numbers (fun vs H Q E h => ?_) (fun cdv A outer s H vs Q E hr h => ?_)
  · obtain ⟨l, xs, qs, rfl, _⟩ := h
    rfl
  · obtain ⟨l, xs, qs, rfl, hx, hn, hz, k⟩ := h
    refine ⟨_, (pss_one (ps_if (PW.pt (pw_or (pt_not (pt_val (pe_callee c_is_list (hr.mono (by decide)) (pa_cons (pv 0) pa_nil)))) (pw_or1 (pt_not (pt_val (pe_callB (cr_all rfl) (by rfl) m_all (by decide +kernel) (pa_cons (pe_lc (own := [("number", 1)]) (g := gName 1) (by rfl) sc__check_numbers.nd (pi_either (pi_list (pv 0)) (pi_tup (pv 0))) (blkOk_by (own := [("number", 1)]) (N := ["numbers", "number"]) (sc := defScope s__check_numbers) (by decide +kernel)) (fun _ _ _ _ _ => (pg_name (i := 1) sc__check_numbers.nd rfl (Or.inl rfl))) (fun _ _ _ _ _ => pts_nil) (fun _ _ _ _ _ => (pe_callee c_is_number (hr.mono (by decide)) (pa_cons (pv 1) pa_nil)))) pa_nil))))))) (pss_one ps_never) pss_nil)), ?_⟩
    obtain ⟨t, ty, hk⟩ := seqTy hx
    refine ⟨_, rfl, l, t, true, rfl, ty, hk, fun H1 e1 => ⟨true, rfl, iteF ?_⟩⟩
    have hx1 := hx.ex e1
    have hn1 := hn.ex e1
    have fin : ∀ D bs H2, Ex H1 H2 → H2 D = some (.lst bs) → bs.length = xs.length → (∀ (i : Nat) v, bs[i]? = some v → v = .bl true) → ∃ b, (∃ (a : Addr) (bs' : List Bool), [V.ref D] = [V.ref a] ∧ SqL K H2 a (bs'.map V.bl) ∧ b = bs'.all id) ∧ b = true := fun D bs H2 e2 hb hl hv => by
      have eb : bs = (List.replicate bs.length true).map V.bl := by
        rw [List.map_replicate]
        exact List.eq_replicate_iff.mpr ⟨rfl, fun v hm => by
          obtain ⟨i, hi⟩ := List.getElem?_of_mem hm
          exact hv i v hi⟩
      exact ⟨true, ⟨D, List.replicate bs.length true, rfl, by rw [← eb]; exact SqL.of hb, by simp⟩, rfl⟩
    have step : ∀ i (x : V) H', Ex H1 H' → xs[i]? = some x → ∀ Q : VK, (∀ v H2, Ex H' H2 → v = V.bl true → Q v H2) → tCall (spNumber K C) [] E0 (tCons (tVar 1) tNil) [some (.ref l), some x] H' Q := fun i x H' e hi Q q => by
      obtain ⟨r, _, hr⟩ := (hn1.ex e).at hi
      obtain ⟨wh, rt, ty, et⟩ := T.num hr
      exact ⟨_, rfl, _, _, _, rfl, ty, by rw [et]; exact q _ _ Ex.rfl rfl⟩
    rcases hx1 with hx1 | hx1
    · refine .inl ⟨_, rfl, l, rfl, ⟨xs, hx1⟩, fun D hD => lc_rel (fun _ v _ => v = .bl true) (fun _ _ _ _ _ h => h) (fun _ _ _ _ _ _ h => h) hD hx1 (by omega) (fun _ => rfl) step fun bs H2 e2 hb hl hv => ?_⟩
      obtain ⟨b, ⟨a, bs', ea, hs, eb⟩, ht⟩ := fin D bs H2 e2 hb hl hv
      refine ⟨a, bs', ea, hs, b, congrArg V.bl eb.symm, ?_⟩
      subst ht
      exact iteF (k H2 (e1.trans e2))
    · refine .inr ⟨_, rfl, l, rfl, ⟨xs, hx1⟩, fun D hD => lc_relT (fun _ v _ => v = .bl true) (fun _ _ _ _ _ h => h) (fun _ _ _ _ _ _ h => h) hD hx1 (by omega) (fun _ => rfl) step fun bs H2 e2 hb hl hv => ?_⟩
      obtain ⟨b, ⟨a, bs', ea, hs, eb⟩, ht⟩ := fin D bs H2 e2 hb hl hv
      refine ⟨a, bs', ea, hs, b, congrArg V.bl eb.symm, ?_⟩
      subst ht
      exact iteF (k H2 (e1.trans e2))
/-! is_amount, is_share -/
abbrev s_is_amount : Stmt := top 13
theorem sc_is_amount : FnScope ["value"] ["value"] (defScope s_is_amount) := ⟨rfl, rfl, rfl, by decide +kernel, rfl, by decide +kernel, by decide +kernel⟩
abbrev s_is_share : Stmt := top 14
theorem sc_is_share : FnScope ["value"] ["value"] (defScope s_is_share) := ⟨rfl, rfl, rfl, by decide +kernel, rfl, by decide +kernel, by decide +kernel⟩
def spAmount (K : Fg) (C : Addr) : Sp := fun vs H Q _ => ∃ x, vs = [x] ∧ ((∃ q, NumAt C H x q ∧ Sz 9000 q ∧ ∀ H', Ex H H' → Q (.bl (decide (0 ≤ q))) H') ∨ (TyN K C H x false false ∧ Q (.bl false) H))
def spShare (K : Fg) (C : Addr) : Sp := fun vs H Q _ => ∃ x, vs = [x] ∧ ((∃ q, NumAt C H x q ∧ Sz 9000 q ∧ ∀ H', Ex H H' → Q (.bl (decide (0 ≤ q ∧ q ≤ 1))) H') ∨ (TyN K C H x false false ∧ Q (.bl false) H))
theorem num_ge (q : Rat) : decide (0 ≤ q.num) = decide (0 ≤ q) := decide_eq_decide.mpr Rat.num_nonneg
theorem num_le1 (q : Rat) : (q.num ≤ (q.den : Int)) = (q ≤ 1) := by
  rw [Rat.le_iff]
  show _ = (q.num * ((1 : Nat) : Int) ≤ 1 * (q.den : Int))
  rw [Int.natCast_one, Int.mul_one, Int.one_mul]
theorem int_ge (i : Int) : decide (0 ≤ i) = decide (0 ≤ (i : Rat)) := by
  have h := num_ge (i : Rat)
  rwa [Rat.num_intCast] at h
theorem int_le1 (i : Int) : (i ≤ 1) = ((i : Rat) ≤ 1) := by
  have h := num_le1 (i : Rat)
  rwa [Rat.num_intCast, Rat.den_intCast] at h
theorem ok_is_amount (F : FnP K "is_amount" "is_amount" s_is_amount [] f fd) (T : RatC K C) (m_isinstance : mg "isinstance" = none) (m_int : mg "int" = none) (g_Ratio : mg "Ratio" = some (.ref C)) : FnX P w K mg base 6 f fd ["value"] (spAmount K C) := by
  refine F.ok sc_is_amount (fun vs H Q E h => ?_) (fun cdv A outer s H vs Q E hr h => ?_)
  · obtain ⟨x, rfl, _⟩ := h
    rfl
  · obtain ⟨x, rfl, h⟩ := h
    refine ⟨_, (pss_cons (ps_if (pt_val (pe_callB call_isi (by rfl) m_isinstance (by decide +kernel) (pa_cons (pv 0) (pa_cons (pe_glob (v := .ref C) (by rfl) g_Ratio rfl) pa_nil)))) (pss_one (ps_ret (pe_cmpR op_ge (pe_fld (pv 0) rfl) pe_int (nomark _)))) pss_nil)
      (pss_one (ps_ret (pe_and (pe_callB call_isi (by rfl) m_isinstance (by decide +kernel) (pa_cons (pv 0) (pa_cons (pe_bltn (v := .ty "int") (by rfl) m_int (by decide +kernel) rfl) pa_nil))) (pe_and (pe_cmpR op_notAny (pv 0) pe_bl (nomark _)) (pe_and (pe_cmpR op_notAny (pv 0) pe_bl (nomark _)) (pe_one (pe_cmpR op_ge (pv 0) pe_int (nomark _))))))))), ?_⟩
    rcases h with ⟨q, hn, z, k⟩ | ⟨ty, k⟩
    · have k := k H Ex.rfl
      rcases hn with ⟨i, rfl, rfl⟩ | ⟨a, rfl, r⟩
      · refine ⟨_, rfl, .int i, .ref C, .type "int", _, false, rfl, .own C, .base (.int i), T.ki, false, rfl, iteF ?_⟩
        refine ⟨_, rfl, .int i, .ty "int", .type "int", _, true, rfl, .ty _, (.base (.int _)), int_kit, true, rfl, iteT ⟨_, rfl, true, rfl, true, rfl, iteT ⟨_, rfl, false, rfl, true, rfl, iteT ⟨_, rfl, _, _, rfl, rfl, ?_⟩⟩⟩⟩
        rw [← int_ge] at k
        exact k
      · refine ⟨_, rfl, .ref a, .ref C, .ref C, _, true, rfl, .own C, T.ty r, T.cc, true, rfl, iteT ?_⟩
        obtain ⟨dx, ha⟩ := r
        refine ⟨_, rfl, a, C, dx, _, _, rfl, ha, T.cl, T.nT, ratF_top, _, _, rfl, rfl, ?_⟩
        rw [← num_ge] at k
        exact k
    · obtain ⟨t, bi, tx, h1, e, h3⟩ := ty.ex
      refine ⟨_, rfl, x, .ref C, t, _, false, rfl, .own C, tx, h3, false, rfl, iteF ?_⟩
      refine ⟨_, rfl, x, .ty "int", t, _, bi, rfl, .ty _, tx, h1, bi, rfl, ?_⟩
      cases bi with
      | false => exact iteF k
      | true =>
        cases x with
        | bl b =>
          cases b with
          | true => exact iteT ⟨_, rfl, true, rfl, false, rfl, iteF k⟩
          | false => exact iteT ⟨_, rfl, true, rfl, true, rfl, iteT ⟨_, rfl, false, rfl, false, rfl, iteF k⟩⟩
        | _ => cases e
theorem ok_is_share (F : FnP K "is_share" "is_share" s_is_share [] f fd) (T : RatC K C) (c_is_whole : Callee P w K mg base 1 "is_whole" ["value"] (spWhole K C)) (m_isinstance : mg "isinstance" = none) (g_Ratio : mg "Ratio" = some (.ref C)) : FnX P w K mg base 7 f fd ["value"] (spShare K C) := by
  refine F.ok sc_is_share (fun vs H Q E h => ?_) (fun cdv A outer s H vs Q E hr h => ?_)
  · obtain ⟨x, rfl, _⟩ := h
    rfl
  · obtain ⟨x, rfl, h⟩ := h
    refine ⟨_, (pss_cons (ps_if (pt_val (pe_callB call_isi (by rfl) m_isinstance (by decide +kernel) (pa_cons (pv 0) (pa_cons (pe_glob (v := .ref C) (by rfl) g_Ratio rfl) pa_nil)))) (pss_one (ps_ret (pe_chain op_le op_le pe_int (pe_fld (pv 0) rfl) (pe_fld (pv 0) rfl)))) pss_nil)
      (pss_one (ps_ret (pe_and (pe_callee c_is_whole (hr.mono (by decide)) (pa_cons (pv 0) pa_nil)) (pe_one (pe_chain op_le op_le pe_int (pv 0) pe_int)))))), ?_⟩
    rcases h with ⟨q, hn, z, k⟩ | ⟨ty, k⟩
    · have k := k H Ex.rfl
      rcases hn with ⟨i, rfl, rfl⟩ | ⟨a, rfl, r⟩
      · refine ⟨_, rfl, .int i, .ref C, .type "int", _, false, rfl, .own C, .base (.int i), T.ki, false, rfl, iteF ?_⟩
        refine ⟨_, rfl, _, _, _, rfl, TyN.int T.ki, true, rfl, iteT ?_⟩
        refine ⟨_, rfl, _, _, rfl, rfl, _, rfl, ?_⟩
        by_cases h0 : 0 ≤ i
        · refine (congrArg (fun b : Bool => if b = true then _ else _) (decide_eq_true h0)).mpr (iteT ⟨_, _, rfl, rfl, ?_⟩)
          have e : decide (0 ≤ (i : Rat) ∧ (i : Rat) ≤ 1) = decide (i ≤ 1) := decide_eq_decide.mpr ⟨fun z => by rw [int_le1]; exact z.2, fun z => ⟨of_decide_eq_true (by rw [← int_ge]; exact decide_eq_true h0), by rw [← int_le1]; exact z⟩⟩
          rw [e] at k
          exact k
        · refine (congrArg (fun b : Bool => if b = true then _ else _) (decide_eq_false h0)).mpr (iteF ?_)
          have e : decide (0 ≤ (i : Rat) ∧ (i : Rat) ≤ 1) = false := decide_eq_false fun z => h0 (of_decide_eq_true (by rw [int_ge]; exact decide_eq_true z.1))
          rw [e] at k
          exact k
      · refine ⟨_, rfl, .ref a, .ref C, .ref C, _, true, rfl, .own C, T.ty r, T.cc, true, rfl, iteT ?_⟩
        obtain ⟨dx, ha⟩ := r
        refine ⟨_, rfl, a, C, dx, _, _, rfl, ha, T.cl, T.nT, ratF_top, _, _, rfl, rfl, _, rfl, ?_⟩
        by_cases h0 : 0 ≤ q.num
        · refine (congrArg (fun b : Bool => if b = true then _ else _) (decide_eq_true h0)).mpr (iteT ⟨_, rfl, a, C, dx, _, _, rfl, ha, T.cl, T.nB, ratF_bot, _, _, rfl, rfl, ?_⟩)
          have e : decide (0 ≤ q ∧ q ≤ 1) = decide (q.num ≤ (q.den : Int)) := decide_eq_decide.mpr ⟨fun z => by rw [num_le1]; exact z.2, fun z => ⟨of_decide_eq_true (by rw [← num_ge]; exact decide_eq_true h0), by rw [← num_le1]; exact z⟩⟩
          rw [e] at k
          exact k
        · refine (congrArg (fun b : Bool => if b = true then _ else _) (decide_eq_false h0)).mpr (iteF ?_)
          have e : decide (0 ≤ q ∧ q ≤ 1) = false := decide_eq_false fun z => h0 (of_decide_eq_true (by rw [num_ge]; exact decide_eq_true z.1))
          rw [e] at k
          exact k
    · obtain ⟨t, bi, tx, h1, e, h3⟩ := ty.ex
      refine ⟨_, rfl, x, .ref C, t, _, false, rfl, .own C, tx, h3, false, rfl, iteF ?_⟩
      exact ⟨_, rfl, _, _, _, rfl, ty, false, rfl, iteF k⟩
theorem seqLen {H : Hp} {l : Addr} {xs : List V} (h : SqX K H l xs) : LenV K (.ref l) H xs.length := h.elim (fun h => .inl ⟨_, h, rfl⟩) fun h => .inr ⟨_, h, rfl⟩
theorem ok_check_some (F : FnP K "_check_some_numbers" "_check_some_numbers" s__check_some_numbers [] f fd) (c__check_numbers : Callee P w K mg base 4 "_check_numbers" ["numbers"] (spCheck K C)) (m_len : mg "len" = none) :
    FnX P w K mg base 5 f fd ["numbers"] (spCheckSome K C) := by
  refine F.ok sc__check_some_numbers (fun vs H Q E h => ?_) (fun cdv A outer s H vs Q E hr h => ?_)
  · obtain ⟨l, xs, qs, rfl, _⟩ := h
    rfl
  · obtain ⟨l, xs, qs, rfl, hx, hn, hz, h0, k⟩ := h
    refine ⟨_, (pss_cons (ps_expr (pe_callee c__check_numbers (hr.mono (by decide)) (pa_cons (pv 0) pa_nil)))
      (pss_one (ps_if (pt_cmpR op_eq (pe_callB call_len (by rfl) m_len (by decide +kernel) (pa_cons (pv 0) pa_nil)) pe_int (nomark _)) (pss_one ps_never) pss_nil))), ?_⟩
    refine ⟨_, rfl, l, xs, qs, rfl, hx, hn, hz, fun H1 e1 => ?_⟩
    refine ⟨_, rfl, .ref l, xs.length, rfl, seqLen (hx.ex e1), rfl, _, rfl, ite2 (fun e => ?_) fun _ => k H1 e1⟩
    have z := V.int.inj (of_decide_eq_true e)
    omega
/-! total -/
abbrev s_common_bottom : Stmt := top 17
theorem sc_common_bottom : FnScope ["numbers", "bottom", "number"] ["numbers"] (defScope s_common_bottom) := ⟨rfl, rfl, rfl, by decide +kernel, rfl, by decide +kernel, by decide +kernel⟩
abbrev s_total : Stmt := top 18
theorem sc_total : FnScope ["numbers", "whole", "quotients", "number", "bottom", "part"] ["numbers"] (defScope s_total) := ⟨rfl, rfl, rfl, by decide +kernel, rfl, by decide +kernel, by decide +kernel⟩
def spTotal (K : Fg) (C : Addr) : Sp := fun vs H Q _ => ∃ l xs qs n, vs = [.ref l] ∧ SqX K H l xs ∧ NumsAt C H xs qs ∧ (∀ q ∈ qs, Sz n q) ∧ n * qs.length ≤ 5900 ∧ n ≤ 5900 ∧ qs.length ≤ 5900 ∧ RetRat C H Q qs.sum
/-- the list of the quotients -/
def RatsAt (C : Addr) (qs : List Rat) : Nat → V → Hp → Prop := fun i v H => ∃ a q, v = .ref a ∧ qs[i]? = some q ∧ RatAt C H a q
theorem rats_stab {qs : List Rat} : Stab (RatsAt C qs) := fun _ _ _ _ e ⟨a, q, ev, hq, r⟩ => ⟨a, q, ev, hq, r.ex e⟩
theorem rats_st {qs : List Rat} {D : Addr} : ∀ i v H acc acc0, H D = some (.lst acc0) → RatsAt C qs i v H → RatsAt C qs i v (upd H D (.lst acc)) := fun _ _ _ _ _ h ⟨a, q, ev, hq, r⟩ => ⟨a, q, ev, hq, r.st h⟩
theorem take_more {α : Type} {l : List α} {i : Nat} {x : α} (h : l[i]? = some x) : l.take (i + 1) = l.take i ++ [x] := by rw [List.take_add_one, h]; rfl
theorem vals_int {bs : List V} {ns : List Int} (hl : bs.length = ns.length) (h : ∀ (i : Nat) v n, bs[i]? = some v → ns[i]? = some n → v = .int n) : bs = ns.map V.int := by
  refine List.ext_getElem? fun i => ?_
  rw [List.getElem?_map]
  cases e : bs[i]? with
  | none =>
    have : ns.length ≤ i := by rw [← hl]; exact List.getElem?_eq_none_iff.mp e
    rw [List.getElem?_eq_none this]
    rfl
  | some v =>
    have li : i < ns.length := by rw [← hl]; exact (List.getElem?_eq_some_iff.mp e).1
    rw [List.getElem?_eq_getElem li, h i v _ e (List.getElem?_eq_getElem li)]
    rfl
theorem lcm_lt {qs : List Rat} {n : Nat} (hq : ∀ q ∈ qs, Sz n q) (z : n * qs.length ≤ 5900) (i : Nat) : lcmL (qs.take i) < 2 ^ 6000 := by
  have h1 := lcmL_le (n := n) (qs := qs.take i) fun q hm => (hq q (List.mem_of_mem_take hm)).2
  have h2 : n * (qs.take i).length ≤ 5900 := Nat.le_trans (Nat.mul_le_mul_left n (by rw [List.length_take]; omega)) z
  exact Nat.lt_of_le_of_lt h1 (Nat.pow_lt_pow_right (by decide) (by omega))
/-- the least common bottom -/
def spCommon (K : Fg) (C : Addr) : Sp := fun vs H Q _ => ∃ l xs qs n, vs = [.ref l] ∧ SqX K H l xs ∧ NumsAt C H xs qs ∧ (∀ q ∈ qs, Sz n q) ∧ n * qs.length ≤ 5900 ∧ n ≤ 5900 ∧ qs.length ≤ 5900 ∧ ∀ H', Ex H H' → Q (.int ((lcmL qs : Nat) : Int)) H'
theorem lcm_one (l : Nat) : Nat.lcm l 1 = l := Nat.lcm_one_right l
theorem ok_common_bottom (F : FnP K "common_bottom" "common_bottom" s_common_bottom [] f fd) (T : RatC K C) (m_isinstance : mg "isinstance" = none) (g_Ratio : mg "Ratio" = some (.ref C)) (g_lcm : mg "lcm" = some (.builtin "math.lcm")) :
    FnX P w K mg base 5 f fd ["numbers"] (spCommon K C) := by
  refine F.ok sc_common_bottom (fun vs H Q E h => ?_) (fun cdv A outer s H vs Q E hr h => ?_)
  · obtain ⟨l, xs, qs, n, rfl, _⟩ := h
    rfl
  · obtain ⟨l, xs, qs, n, rfl, hx, hn, hq, z1, z2, z3, k⟩ := h
    refine ⟨_, (pss_cons (ps_asg pe_int (pg_name (i := 1) sc_common_bottom.nd rfl (.inl rfl)))
      (pss_cons (ps_for (passes_of rfl) rfl (pi_either (pi_list (pv 0)) (pi_tup (pv 0))) (pg_name (i := 2) sc_common_bottom.nd rfl (.inl rfl)) (pss_one (ps_if (pt_val (pe_callB call_isi (by rfl) m_isinstance (by decide +kernel) (pa_cons (pv 2) (pa_cons (pe_glob (v := .ref C) (by rfl) g_Ratio rfl) pa_nil)))) (pss_one (ps_asg (pe_callBfun call_lcm (by rfl) g_lcm (pa_cons (pv 1) (pa_cons (pe_fld (pv 2) rfl) pa_nil))) (pg_name (i := 1) sc_common_bottom.nd rfl (.inl rfl)))) pss_nil)))
      (pss_one (ps_ret (pv 1))))), ?_⟩
    have hLd := lcm_lt hq z1
    have hqn : ∀ {q}, q ∈ qs → Sz 6000 q := fun h => (hq _ h).mono (by omega)
    refine for_seq (a := l) (xs := xs) rfl hx (fun i σ' H' => Ex H H' ∧ ∃ v, σ' = [some (.ref l), some (.int ((lcmL (qs.take i) : Nat) : Int)), v]) ⟨Ex.rfl, none, rfl⟩ (fun _ _ _ q => q.1) (fun i x σ' H' hi q => ?_) fun σ' H' q => ?_
    · obtain ⟨e, v, rfl⟩ := q
      obtain ⟨r, hr1, hr⟩ := (hn.ex e).at hi
      have hm := List.mem_of_getElem? hr1
      rcases hr with ⟨j, rfl, rfl⟩ | ⟨b, rfl, hb'⟩
      · refine ⟨_, rfl, .int j, .ref C, .type "int", _, false, rfl, .own C, .base (.int j), T.ki, false, rfl, iteF ⟨e, some (.int j), ?_⟩⟩
        rw [take_more hr1, lcmL_more, Rat.den_intCast, lcm_one]
        rfl
      · refine ⟨_, rfl, .ref b, .ref C, .ref C, _, true, rfl, .own C, T.ty hb', T.cc, true, rfl, iteT ?_⟩
        obtain ⟨dx, hb⟩ := hb'
        refine ⟨_, rfl, _, rfl, b, C, dx, _, _, rfl, hb, T.cl, T.nB, ratF_bot, _, _, rfl, by rw [Int.natAbs_natCast]; exact hLd i, sz_den (hqn hm), ⟨e, some (.ref b), ?_⟩⟩
        rw [take_more hr1, lcmL_more, Int.natAbs_natCast, Int.natAbs_natCast]
        rfl
    · obtain ⟨e, v, rfl⟩ := q
      rw [show xs.length = qs.length from hn.1, List.take_length]
      exact ⟨_, rfl, k H' e⟩
theorem div_tot (L : Nat) (h0 : 0 < L) (w : Int) (qs : List Rat) (h : ∀ q ∈ qs, q.den ∣ L) : Rat.divInt (w * L + (qs.map fun q => q.num * ((L / q.den : Nat) : Int)).sum) L = (w : Rat) + qs.sum := by
  rw [divInt_add _ _ _ h0, total_eq L h0 qs h]
  have e : Rat.divInt (w * L) L = (w : Rat) := by
    have h := Rat.divInt_mul_right (n := w) (d := 1) (a := (L : Int)) (by omega)
    rw [Int.one_mul] at h
    rw [h, int_eq]
  rw [e]
theorem sum_more {qs : List Rat} {i : Nat} {q : Rat} (h : qs[i]? = some q) : (qs.take (i + 1)).sum = (qs.take i).sum + q := by
  rw [take_more h, List.sum_append, List.sum_cons, List.sum_nil, Rat.add_zero]
/-- what total has gathered behind i numbers: a whole number, and the quotients in a list at D -/
def Got (C : Addr) (n : Nat) (l : Addr) (D : Addr) (H1 : Hp) (qs : List Rat) (i : Nat) (σ' : L2.St) (H' : Hp) : Prop :=
  Ex H1 H' ∧ ∃ (w : Int) (rs : List V) (ps : List Rat) (v : Option V), σ' = [some (.ref l), some (.int w), some (.ref D), v, none, none] ∧ H' D = some (.lst rs) ∧ rs.length = ps.length ∧ (∀ (j : Nat) x, rs[j]? = some x → RatsAt C ps j x H') ∧ rs.length ≤ i ∧ (∀ p ∈ ps, Sz n p) ∧ (w : Rat) + ps.sum = (qs.take i).sum ∧ w.natAbs ≤ i * 2 ^ n
theorem Got.num {n : Nat} {l D : Addr} {H1 H' : Hp} {qs : List Rat} {i : Nat} {w j : Int} {rs : List V} {ps : List Rat} (e : Ex H1 H') (hD : H' D = some (.lst rs)) (hl : rs.length = ps.length) (hr : ∀ (k : Nat) x, rs[k]? = some x → RatsAt C ps k x H') (hi : rs.length ≤ i) (hp : ∀ p ∈ ps, Sz n p)
    (hs : (w : Rat) + ps.sum = (qs.take i).sum) (hw : w.natAbs ≤ i * 2 ^ n) (hq : qs[i]? = some (j : Rat)) (hz : Sz n (j : Rat)) : Got C n l D H1 qs (i + 1) [some (.ref l), some (.int (w + j)), some (.ref D), some (.int j), none, none] H' := by
  refine ⟨e, w + j, rs, ps, _, rfl, hD, hl, hr, by omega, hp, ?_, ?_⟩
  · rw [sum_more hq, ← hs, Rat.intCast_add, Rat.add_assoc, Rat.add_comm (j : Rat), ← Rat.add_assoc]
  · have hj : j.natAbs < 2 ^ n := by have := hz.1; rwa [Rat.num_intCast] at this
    rw [Nat.add_mul, Nat.one_mul]
    omega
theorem Got.rat {n : Nat} {l D b : Addr} {H1 H' : Hp} {qs : List Rat} {i : Nat} {w : Int} {q : Rat} {rs : List V} {ps : List Rat} (e : Ex H1 (upd H' D (.lst (rs ++ [.ref b])))) (hD : H' D = some (.lst rs)) (hl : rs.length = ps.length) (hr : ∀ (k : Nat) x, rs[k]? = some x → RatsAt C ps k x H') (hi : rs.length ≤ i) (hp : ∀ p ∈ ps, Sz n p)
    (hs : (w : Rat) + ps.sum = (qs.take i).sum) (hw : w.natAbs ≤ i * 2 ^ n) (hq : qs[i]? = some q) (hz : Sz n q) (hb : RatAt C H' b q) : Got C n l D H1 qs (i + 1) [some (.ref l), some (.int w), some (.ref D), some (.ref b), none, none] (upd H' D (.lst (rs ++ [.ref b]))) := by
  refine ⟨e, w, rs ++ [.ref b], ps ++ [q], _, rfl, upd_same, by rw [List.length_append, List.length_append, hl]; rfl, fun j x hj => ?_, by rw [List.length_append]; simp; omega, fun p hm => ?_, ?_, by rw [Nat.add_mul]; omega⟩
  · rcases Nat.lt_or_ge j rs.length with h | h
    · rw [List.getElem?_append_left h] at hj
      obtain ⟨a, r, ev, hq2, ra⟩ := hr j x hj
      exact ⟨a, r, ev, by rw [List.getElem?_append_left (by omega)]; exact hq2, ra.st hD⟩
    · rw [List.getElem?_append_right h] at hj
      have h1 : j - rs.length < [V.ref b].length := (List.getElem?_eq_some_iff.mp hj).1
      have h2 : j = rs.length := by simp at h1; omega
      subst h2
      simp at hj
      subst hj
      exact ⟨b, q, rfl, by rw [hl, List.getElem?_append_right (Nat.le_refl _)]; simp, hb.st hD⟩
  · rcases List.mem_append.mp hm with h | h
    · exact hp p h
    · rw [List.mem_singleton.mp h]
      exact hz
  · rw [sum_more hq, ← hs, List.sum_append, List.sum_cons, List.sum_nil, Rat.add_zero, Rat.add_assoc]
theorem ok_total (F : FnP K "total" "total" s_total [] f fd) (T : RatC K C) (c_is_list : Callee P w K mg base 1 "is_list" ["value"] (spIsList K)) (m_isinstance : mg "isinstance" = none) (m_int : mg "int" = none) (g_Ratio : mg "Ratio" = some (.ref C))
    (c_common_bottom : Callee P w K mg base 5 "common_bottom" ["numbers"] (spCommon K C)) (k_Ratio2 : Maker P w K mg base 2 "Ratio" C ["self", "top", "bottom"] [] (spRInit C CZ)) (k_Ratio1 : Maker P w K mg base 2 "Ratio" C ["self", "top", "bottom"] [.int 1] (spRInit C CZ)) (m_sum : mg "sum" = none) :
    FnX P w K mg base 6 f fd ["numbers"] (spTotal K C) := by
  refine F.ok sc_total (fun vs H Q E h => ?_) (fun cdv A outer s H vs Q E hr h => ?_)
  · obtain ⟨l, xs, qs, n, rfl, _⟩ := h
    rfl
  · obtain ⟨l, xs, qs, n, rfl, hx, hn, hq, z1, z2, z3, k⟩ := h
    refine ⟨_, (pss_cons (ps_if (pt_not (pt_val (pe_callee c_is_list (hr.mono (by decide)) (pa_cons (pv 0) pa_nil)))) (pss_one ps_never) pss_nil)
      (pss_cons (ps_asg pe_int (pg_name (i := 1) sc_total.nd rfl (.inl rfl)))
      (pss_cons (ps_asg (pe_lst pa_nil) (pg_name (i := 2) sc_total.nd rfl (.inl rfl)))
      (pss_cons (ps_for (passes_of rfl) rfl (pi_either (pi_list (pv 0)) (pi_tup (pv 0))) (pg_name (i := 3) sc_total.nd rfl (.inl rfl)) (pss_one (ps_if (pt_val (pe_callB call_isi (by rfl) m_isinstance (by decide +kernel) (pa_cons (pv 3) (pa_cons (pe_glob (v := .ref C) (by rfl) g_Ratio rfl) pa_nil)))) (pss_one (ps_expr (pe_bm PySem.F.plainAttrs_list PySem.F.slot_list_append PySem.F.type_list_append mt_append (pv 2) (pa_cons (pv 3) pa_nil)))) (pss_one (ps_if (PW.pt (pw_and (pt_val (pe_callB call_isi (by rfl) m_isinstance (by decide +kernel) (pa_cons (pv 3) (pa_cons (pe_bltn (v := .ty "int") (by rfl) m_int (by decide +kernel) rfl) pa_nil)))) (pw_and (pt_cmpR op_notAny (pv 3) pe_bl (nomark _)) (pw_and1 (pt_cmpR op_notAny (pv 3) pe_bl (nomark _)))))) (pss_one (ps_aug (i := 1) sc_total.nd rfl (.inl rfl) (pv 3) ip_add)) (pss_one ps_never))))))
      (pss_cons (ps_if (pt_not (pt_truth (pv 2) (by intro _; rfl))) (pss_one (ps_ret (pe_maker k_Ratio1 (hr.mono (by decide)) passL (pa_cons (pv 1) pa_nil)))) pss_nil)
      (pss_cons (ps_asg (pe_callee c_common_bottom (hr.mono (by decide)) (pa_cons (pv 2) pa_nil)) (pg_name (i := 4) sc_total.nd rfl (.inr rfl)))
      (pss_one (ps_ret (pe_maker k_Ratio2 (hr.mono (by decide)) passL (pa_cons (pe_op op_add (pe_op op_mulW (pv 1) (pv 4)) (pe_callB (cr_sum rfl) (by rfl) m_sum (by decide +kernel) (pa_cons (pe_lc (own := [("part", 5)]) (g := gName 5) (by rfl) sc_total.nd (pi_list (pv 2)) (blkOk_by (own := [("part", 5)]) (N := ["numbers", "whole", "quotients", "number", "bottom", "part"]) (sc := defScope s_total) (by decide +kernel)) (fun _ _ _ _ _ => (pg_name (i := 5) sc_total.nd rfl (Or.inl rfl))) (fun _ _ _ _ _ => pts_nil) (fun _ _ _ _ _ => (pe_op op_mulW (pe_fldB (pv 5) rfl) (pe_op op_divA (pv 4) (pe_fldB (pv 5) rfl))))) pa_nil))) (pa_cons (pv 4) pa_nil))))))))))), ?_⟩
    have hlen : xs.length ≤ 6000 := by rw [hn.1]; omega
    obtain ⟨t, ty, hk⟩ := seqTy hx
    refine ⟨_, rfl, l, t, true, rfl, ty, hk, fun H1 e1 => ⟨true, rfl, iteF ?_⟩⟩
    refine ⟨(by show 0 ≤ sizeLine; decide), fun D hD => ?_⟩
    have eD : Ex H1 (upd H1 D (.lst [])) := Ex.new hD
    refine for_seq (a := l) (xs := xs) rfl (hx.ex e1) (Got C n l D H1 qs) ⟨eD, 0, [], [], none, rfl, upd_same, rfl, fun j x h => by simp at h, Nat.le_refl _, fun p h => by simp at h, by show ((0 : Int) : Rat) + ([] : List Rat).sum = ([] : List Rat).sum; rw [List.sum_nil, Rat.add_zero]; rfl, by show 0 ≤ 0 * 2 ^ n; exact Nat.zero_le _⟩ (fun _ _ _ q => q.1) (fun i x σ' H' hi q => ?_) fun σ' H' q => ?_
    · obtain ⟨e, w, rs, ps, v, rfl, hDr, hl, hrs, hri, hp, hs, hw⟩ := q
      obtain ⟨r, hr1, hr'⟩ := (hn.ex (e1.trans e)).at hi
      have hm := List.mem_of_getElem? hr1
      have hi' : i < 6000 := by have := (List.getElem?_eq_some_iff.mp hi).1; omega
      rcases hr' with ⟨j, rfl, rfl⟩ | ⟨b, rfl, hb⟩
      · refine ⟨_, rfl, .int j, .ref C, .type "int", _, false, rfl, .own C, .base (.int j), T.ki, false, rfl, iteF ?_⟩
        refine ⟨_, rfl, .int j, .ty "int", .type "int", _, true, rfl, .ty _, (.base (.int _)), int_kit, true, rfl, iteT ⟨_, rfl, true, rfl, true, rfl, iteT ⟨_, rfl, false, rfl, true, rfl, iteT ?_⟩⟩⟩
        exact ⟨_, rfl, _, rfl, _, _, rfl, rfl, Got.num e hDr hl hrs hri hp hs hw hr1 (hq _ hm)⟩
      · refine ⟨_, rfl, .ref b, .ref C, .ref C, _, true, rfl, .own C, T.ty hb, T.cc, true, rfl, iteT ?_⟩
        exact ⟨_, rfl, .inl ⟨rfl, _, SqL.of hDr⟩, _, rfl, D, rs, .ref b, rfl, rfl, hDr, len_line (by omega), Got.rat (e.mut hD) hDr hl hrs hri hp hs hw hr1 (hq _ hm) hb⟩
    · obtain ⟨e, w, rs, ps, v, rfl, hDr, hl, hrs, hri, hp, hs, hw⟩ := q
      rw [hn.1, List.take_length] at hs
      have hw2 : w.natAbs < 2 ^ 6000 := by
        refine Nat.lt_of_le_of_lt hw (Nat.lt_of_le_of_lt (Nat.mul_le_mul_right _ (show xs.length ≤ 2 ^ 13 by rw [hn.1]; exact Nat.le_trans z3 (by decide))) ?_)
        rw [← Nat.pow_add]
        exact Nat.pow_lt_pow_right (by decide) (by omega)
      have e12 := e1.trans e
      refine ⟨_, rfl, _, .inl ⟨rs, SqL.of hDr, rfl⟩, ?_⟩
      cases rs with
      | nil =>
        cases ps with
        | cons p r => simp at hl
        | nil =>
          refine iteT ?_
          refine ⟨_, rfl, fun p dp hp hdp ne => mk_rat (by decide) (by decide) (fun p H2 n' e' h => k p H2 (e12.free n') (e12.trans e') ?_) p dp hp hdp ne⟩
          rw [int_eq] at h
          rw [← hs, List.sum_nil, Rat.add_zero]
          exact h
      | cons r0 rs0 =>
        refine iteF ?_
        generalize r0 :: rs0 = rs at hDr hl hrs hri
        have zl : rs.length ≤ xs.length := hri
        rw [hn.1, hl] at zl
        have hnum : NumsAt C H' rs ps := ⟨hl, fun j x q hx2 hq2 => by
          obtain ⟨a, q', ev, hq', ra⟩ := hrs j x hx2
          rw [hq2] at hq'
          cases hq'
          exact .inr ⟨a, ev, ra⟩⟩
        refine ⟨_, rfl, D, rs, ps, n, rfl, .inl (SqL.of hDr), hnum, hp, Nat.le_trans (Nat.mul_le_mul_left n zl) z1, z2, by omega, fun H2 e2 => ?_⟩
        have hL0 := lcmL_pos ps
        have hL : lcmL ps < 2 ^ 6000 := by
          have h := lcm_lt hp (Nat.le_trans (Nat.mul_le_mul_left n zl) z1) ps.length
          rwa [List.take_length] at h
        refine ⟨_, rfl, _, rfl, _, _, rfl, rfl, sz_mul hw2 (by rw [Int.natAbs_natCast]; exact hL) (by decide) (by decide), ?_⟩
        refine ⟨_, rfl, D, rfl, ⟨rs, SqL.of (e2 _ _ hDr)⟩, fun D2 hD2 => lc_rel (fun i v _ => ∃ q : Rat, ps[i]? = some q ∧ v = .int (q.num * ((lcmL ps / q.den : Nat) : Int))) (fun _ _ _ _ _ h => h) (fun _ _ _ _ _ _ h => h) hD2 (SqL.of (e2 _ _ hDr)) (by omega) (fun _ => rfl) (fun i x H3 e3 hi Q q => ?_) fun bs H3 e3 hb hlb hv => ?_⟩
        · obtain ⟨a, p, rfl, hpi, ra⟩ := hrs i x hi
          have zp : Sz 6000 p := (hp _ (List.mem_of_getElem? hpi)).mono (by omega)
          obtain ⟨dx, ha⟩ := (ra.ex (e2.trans e3))
          have hp0 := den_pos p
          have ed : ((lcmL ps : Nat) : Int).fdiv (p.den : Int) = ((lcmL ps / p.den : Nat) : Int) := by
            rw [Int.fdiv_eq_ediv_of_nonneg _ (by omega)]
            rfl
          refine ⟨_, rfl, a, C, dx, _, _, rfl, ha, T.cl, T.nT, ratF_top, _, rfl, _, rfl, a, C, dx, _, _, rfl, ha, T.cl, T.nB, ratF_bot, _, _, rfl, rfl, divA (n := 6000) (by omega) (sz_den zp) (by decide), ?_⟩
          refine ⟨_, _, rfl, rfl, sz_mul (m := 6000) zp.1 ?_ (by decide) (by decide), ?_⟩
          · show ((lcmL ps : Int).fdiv (p.den : Int)).natAbs < 2 ^ 6000
            rw [ed, Int.natAbs_natCast]
            exact Nat.lt_of_le_of_lt (Nat.div_le_self ..) hL
          · exact (congrArg (fun z => Q (V.int (p.num * z)) H3) ed).mpr (q _ H3 Ex.rfl ⟨p, hpi, rfl⟩)
        · have ebs : bs = (ps.map fun q => q.num * ((lcmL ps / q.den : Nat) : Int)).map V.int := vals_int (by rw [List.length_map]; exact hlb.trans hl) fun i v m h1 h2 => by
            obtain ⟨q, hqi, ev⟩ := hv i v h1
            rw [List.getElem?_map, hqi] at h2
            rw [ev]
            exact congrArg V.int (Option.some.inj h2)
          rw [ebs] at hb
          refine ⟨D2, _, rfl, SqL.of hb, _, _, rfl, rfl, _, rfl, ?_⟩
          refine fun p dp hp' hdp ne => mk_rat (by omega) (by rw [Int.natAbs_natCast]; exact Nat.lt_trans hL (Nat.pow_lt_pow_right (by decide) (by decide))) (fun p H4 n' e' h => k p H4 (((e12.trans e2).trans e3).free n') (((e12.trans e2).trans e3).trans e') ?_) p dp hp' hdp ne
          rw [div_tot _ hL0 _ ps fun q hm => lcmL_dvd hm, hs] at h
          exact h
/-! least, greatest -/
abbrev s_is_below : Stmt := top 16
theorem sc_is_below : FnScope ["one", "other"] ["one", "other"] (defScope s_is_below) := ⟨rfl, rfl, rfl, by decide +kernel, rfl, by decide +kernel, by decide +kernel⟩
def spIsBelow (C : Addr) : Sp := fun vs H Q _ => ∃ x y q r, vs = [x, y] ∧ NumAt C H x q ∧ NumAt C H y r ∧ Sz 9000 q ∧ Sz 9000 r ∧ ∀ H', Ex H H' → Q (.bl (decide (q < r))) H'
theorem lt_int_dec (i : Int) (r : Rat) : decide (i * (r.den : Int) < r.num) = decide ((i : Rat) < r) := by
  have h := lt_dec (i : Rat) r
  rwa [Rat.den_intCast, Rat.num_intCast, Int.natCast_one, Int.mul_one] at h
theorem lt_int_int (i j : Int) : decide (i < j) = decide ((i : Rat) < (j : Rat)) := by
  have h := lt_dec (i : Rat) (j : Rat)
  rwa [Rat.den_intCast, Rat.den_intCast, Rat.num_intCast, Rat.num_intCast, Int.natCast_one, Int.mul_one, Int.mul_one] at h
theorem ok_is_below (F : FnP K "is_below" "is_below" s_is_below [] f fd) (T : RatC K C) (m_isinstance : mg "isinstance" = none) (g_Ratio : mg "Ratio" = some (.ref C)) (m_below : Mthd P w K mg base 2 C "below" ["self", "number"] (spBelow C)) : FnX P w K mg base 3 f fd ["one", "other"] (spIsBelow C) := by
  refine F.ok sc_is_below (fun vs H Q E h => ?_) (fun cdv A outer s H vs Q E hr h => ?_)
  · obtain ⟨x, y, q, r, rfl, _⟩ := h
    rfl
  · obtain ⟨x, y, q, r, rfl, hx, hy, zq, zr, k⟩ := h
    obtain ⟨f_below, fd_below, cl_below, me_below, b_below, F_below⟩ := m_below.ex
    refine ⟨_, (pss_cons (ps_if (pt_val (pe_callB call_isi (by rfl) m_isinstance (by decide +kernel) (pa_cons (pv 0) (pa_cons (pe_glob (v := .ref C) (by rfl) g_Ratio rfl) pa_nil)))) (pss_one (ps_ret (pe_meth (pv 0) cl_below me_below F_below (hr.mono (by decide)) b_below .nil passL (pa_cons (pv 1) pa_nil)))) pss_nil)
      (pss_cons (ps_if (pt_val (pe_callB call_isi (by rfl) m_isinstance (by decide +kernel) (pa_cons (pv 1) (pa_cons (pe_glob (v := .ref C) (by rfl) g_Ratio rfl) pa_nil)))) (pss_one (ps_ret (pe_cmpR op_lt (pe_op op_mulW (pv 0) (pe_fld (pv 1) rfl)) (pe_fld (pv 1) rfl) (nomark _)))) pss_nil)
      (pss_one (ps_ret (pe_cmpR op_lt (pv 0) (pv 1) (nomark _)))))), ?_⟩
    rcases hx with ⟨i, rfl, rfl⟩ | ⟨a, rfl, ra⟩
    · have zi : i.natAbs < 2 ^ 9000 := by have := zq.1; rwa [Rat.num_intCast] at this
      refine ⟨_, rfl, .int i, .ref C, .type "int", _, false, rfl, .own C, .base (.int i), T.ki, false, rfl, iteF ?_⟩
      rcases hy with ⟨j, rfl, rfl⟩ | ⟨b, rfl, rb⟩
      · refine ⟨_, rfl, .int j, .ref C, .type "int", _, false, rfl, .own C, .base (.int j), T.ki, false, rfl, iteF ?_⟩
        have k := k H Ex.rfl
        rw [← lt_int_int] at k
        exact ⟨_, rfl, _, rfl, _, _, rfl, rfl, k⟩
      · refine ⟨_, rfl, .ref b, .ref C, .ref C, _, true, rfl, .own C, T.ty rb, T.cc, true, rfl, iteT ?_⟩
        obtain ⟨dx, hb⟩ := rb
        have k := k H Ex.rfl
        rw [← lt_int_dec] at k
        exact ⟨_, rfl, _, rfl, b, C, dx, _, _, rfl, hb, T.cl, T.nB, ratF_bot, _, _, rfl, rfl, sz_mul zi (sz_den zr) (by decide) (by decide), _, rfl, b, C, dx, _, _, rfl, hb, T.cl, T.nT, ratF_top, _, _, rfl, rfl, k⟩
    · refine ⟨_, rfl, .ref a, .ref C, .ref C, _, true, rfl, .own C, T.ty ra, T.cc, true, rfl, iteT ?_⟩
      obtain ⟨dx, ha⟩ := id ra
      exact ⟨_, rfl, a, dx, _, rfl, ha, ratF_no (by decide +kernel) (by decide +kernel), y, rfl, a, y, q, r, rfl, ra, hy, zq, zr, k⟩
abbrev s_least : Stmt := top 19
theorem sc_least : FnScope ["numbers", "found", "place"] ["numbers"] (defScope s_least) := ⟨rfl, rfl, rfl, by decide +kernel, rfl, by decide +kernel, by decide +kernel⟩
abbrev s_greatest : Stmt := top 20
theorem sc_greatest : FnScope ["numbers", "number"] ["numbers"] (defScope s_greatest) := ⟨rfl, rfl, rfl, by decide +kernel, rfl, by decide +kernel, by decide +kernel⟩
def spLeast (K : Fg) (C : Addr) : Sp := fun vs H Q _ => ∃ l xs qs, vs = [.ref l] ∧ SqX K H l xs ∧ NumsAt C H xs qs ∧ xs.length ≤ 6000 ∧ 0 < xs.length ∧ (∀ q ∈ qs, Sz 9000 q) ∧ ∀ H', Ex H H' → Q (.int ((leastTo qs (qs.length - 1) : Nat) : Int)) H'
theorem seqIx {H : Hp} {l : Addr} {xs : List V} {i : Int} {v : V} {Q : VK} {Z : Prop} (h : SqX K H l xs) (ha : atI xs i = some v) (k : Q v H) : rIxL K (.ref l) (.int i) H Q ∨ rIxT K (.ref l) (.int i) H Q ∨ Z :=
  h.elim (fun h => .inl ⟨l, xs, i, v, rfl, rfl, h, ha, k⟩) fun h => .inr (.inl ⟨l, xs, i, v, rfl, rfl, h, ha, k⟩)
theorem ok_least (F : FnP K "least" "least" s_least [] f fd) (T : RatC K C) (c__check_some_numbers : Callee P w K mg base 5 "_check_some_numbers" ["numbers"] (spCheckSome K C)) (c_is_below : Callee P w K mg base 3 "is_below" ["one", "other"] (spIsBelow C)) (m_range : mg "range" = none) (m_len : mg "len" = none) : FnX P w K mg base 6 f fd ["numbers"] (spLeast K C) := by
  refine F.ok sc_least (fun vs H Q E h => ?_) (fun cdv A outer s H vs Q E hr h => ?_)
  · obtain ⟨l, xs, qs, rfl, _⟩ := h
    rfl
  · obtain ⟨l, xs, qs, rfl, hx, hn, hz, h0, hq, k⟩ := h
    refine ⟨_, (pss_cons (ps_expr (pe_callee c__check_some_numbers (hr.mono (by decide)) (pa_cons (pv 0) pa_nil)))
      (pss_cons (ps_asg pe_int (pg_name (i := 1) sc_least.nd rfl (.inl rfl)))
      (pss_cons (ps_for (passes_of rfl) rfl (pi_range2 (by rfl) m_range (pa_cons pe_int (pa_cons (pe_callB call_len (by rfl) m_len (by decide +kernel) (pa_cons (pv 0) pa_nil)) pa_nil))) (pg_name (i := 2) sc_least.nd rfl (.inl rfl)) (pss_one (ps_if (pt_truth (pe_callee c_is_below (hr.mono (by decide)) (pa_cons (pe_ix ix_seq (pv 0) (pv 2) (fun _ _ => rfl)) (pa_cons (pe_ix ix_seq (pv 0) (pv 1) (fun _ _ => rfl)) pa_nil))) (by intro _; rfl)) (pss_one (ps_asg (pv 2) (pg_name (i := 1) sc_least.nd rfl (.inl rfl)))) pss_nil)))
      (pss_one (ps_ret (pv 1)))))), ?_⟩
    refine ⟨_, rfl, l, xs, qs, rfl, hx, hn, hz, h0, fun H1 e1 => ?_⟩
    have hx1 := hx.ex e1
    have hlen := hn.1
    refine ⟨_, rfl, .ref l, xs.length, rfl, seqLen hx1, 1, _, rfl, ⟨by decide, by decide, by omega, by omega⟩, for_range (lo := 1) (n := ((xs.length : Int) - 1).toNat) (fun i σ' H' => Ex H1 H' ∧ ∃ v, σ' = [some (.ref l), some (.int ((leastTo qs i : Nat) : Int)), v]) ⟨Ex.rfl, none, rfl⟩ ?_ ?_⟩
    · rintro i σ' H' hi ⟨e2, v, rfl⟩
      have hi' : i + 1 < xs.length := by omega
      have hj := leastTo_le qs i
      have hx2 := hx1.ex e2
      have hn2 := (hn.ex e1).ex e2
      have g1 : atI xs (1 + (i : Int)) = some xs[i + 1] := at_of (j := i + 1) (by omega) (List.getElem?_eq_getElem hi')
      have g2 : atI xs ((leastTo qs i : Nat) : Int) = some xs[leastTo qs i] := at_of (j := leastTo qs i) rfl (List.getElem?_eq_getElem (by omega))
      obtain ⟨q1, hq1, n1⟩ := hn2.at (List.getElem?_eq_getElem hi')
      obtain ⟨q2, hq2, n2⟩ := hn2.at (List.getElem?_eq_getElem (show leastTo qs i < xs.length by omega))
      refine ⟨_, rfl, _, rfl, seqIx hx2 g1 ⟨_, rfl, _, rfl, seqIx hx2 g2 ?_⟩⟩
      refine ⟨_, _, q1, q2, rfl, n1, n2, hq q1 (List.mem_of_getElem? hq1), hq q2 (List.mem_of_getElem? hq2), fun H4 e4 => ⟨_, rfl, ?_⟩⟩
      have es : leastTo qs (i + 1) = if q1 < q2 then i + 1 else leastTo qs i := by
        show (if qs.getD (i + 1) 0 < qs.getD (leastTo qs i) 0 then i + 1 else leastTo qs i) = _
        rw [List.getD_eq_getElem?_getD, List.getD_eq_getElem?_getD, hq1, hq2]
        rfl
      refine ite2 (fun e => ?_) (fun e => ?_)
      · refine ⟨_, rfl, e2.trans e4, some (.int (1 + i)), ?_⟩
        rw [es, if_pos (of_decide_eq_true e), show ((i + 1 : Nat) : Int) = 1 + (i : Int) by omega]
        rfl
      · refine ⟨e2.trans e4, some (.int (1 + i)), ?_⟩
        rw [es, if_neg (fun z => e (decide_eq_true z))]
        rfl
    · rintro σ' H' ⟨e2, v, rfl⟩
      refine ⟨_, rfl, ?_⟩
      have z := k H' (e1.trans e2)
      rw [show ((xs.length : Int) - 1).toNat = qs.length - 1 by omega]
      exact z
def spGreatest (K : Fg) (C : Addr) : Sp := fun vs H Q _ => ∃ l xs qs, vs = [.ref l] ∧ SqX K H l xs ∧ NumsAt C H xs qs ∧ xs.length ≤ 6000 ∧ 0 < xs.length ∧ (∀ q ∈ qs, Sz 9000 q) ∧ ∀ H', Ex H H' → Q (.int ((leastTo (qs.map (fun q => -q)) (qs.length - 1) : Nat) : Int)) H'
theorem ok_greatest (F : FnP K "greatest" "greatest" s_greatest [] f fd) (T : RatC K C) (c__check_some_numbers : Callee P w K mg base 5 "_check_some_numbers" ["numbers"] (spCheckSome K C)) (c_as_ratio : Callee P w K mg base 4 "as_ratio" ["number"] (spAsRatio C))
    (o_Neg : NegOk P w K mg base 5 C (spNeg C)) (c_least : Callee P w K mg base 6 "least" ["numbers"] (spLeast K C)) : FnX P w K mg base 7 f fd ["numbers"] (spGreatest K C) := by
  refine F.ok sc_greatest (fun vs H Q E h => ?_) (fun cdv A outer s H vs Q E hr h => ?_)
  · obtain ⟨l, xs, qs, rfl, _⟩ := h
    rfl
  · obtain ⟨l, xs, qs, rfl, hx, hn, hz, h0, hq, k⟩ := h
    refine ⟨_, (pss_cons (ps_expr (pe_callee c__check_some_numbers (hr.mono (by decide)) (pa_cons (pv 0) pa_nil)))
      (pss_one (ps_ret (pe_callee c_least (hr.mono (by decide)) (pa_cons (pe_lc (own := [("number", 1)]) (g := gName 1) (by rfl) sc_greatest.nd (pi_either (pi_list (pv 0)) (pi_tup (pv 0))) (blkOk_by (own := [("number", 1)]) (N := ["numbers", "number"]) (sc := defScope s_greatest) (by decide +kernel)) (fun _ _ _ _ _ => (pg_name (i := 1) sc_greatest.nd rfl (Or.inl rfl))) (fun _ _ _ _ _ => pts_nil) (fun _ _ _ _ _ => (pe_un (un_ownNeg o_Neg (hr.mono (by decide))) (pe_callee c_as_ratio (hr.mono (by decide)) (pa_cons (pv 1) pa_nil))))) pa_nil))))), ?_⟩
    refine ⟨_, rfl, l, xs, qs, rfl, hx, hn, hz, h0, fun H1 e1 => ?_⟩
    have hn1 := hn.ex e1
    have hlen := hn.1
    have sz : ∀ q : Rat, Sz 9000 q → Sz 9000 (-q) := fun q h => ⟨by show (-q.num).natAbs < _; rw [Int.natAbs_neg]; exact h.1, h.2⟩
    have step : ∀ i (x : V) H', Ex H1 H' → xs[i]? = some x → ∀ Q : VK, (∀ v H2, Ex H' H2 → RatsAt C (qs.map (fun q => -q)) i v H2 → Q v H2) → tUn (rNeg C (spNeg C)) (tCall (spAsRatio C) [] E0 (tCons (tVar 1) tNil)) [some (.ref l), some x] H' Q := fun i x H' e hi Q q => by
      obtain ⟨r, hr1, hr⟩ := (hn1.ex e).at hi
      refine ⟨_, rfl, x, r, rfl, hr, fun b H2 e2 rb => ?_⟩
      have rb' := rb
      obtain ⟨dx, hb⟩ := rb
      exact ⟨⟨b, dx, _, rfl, hb⟩, b, r, rfl, rb', hq r (List.mem_of_getElem? hr1), fun p H3 _ e3 rp => q _ H3 (e2.trans e3) ⟨p, -r, rfl, by rw [List.getElem?_map, hr1]; rfl, rp⟩⟩
    have fin : ∀ (D : Addr) (bs : List V) (H2 : Hp), Ex H1 H2 → H2 D = some (.lst bs) → bs.length = xs.length → (∀ (i : Nat) v, bs[i]? = some v → RatsAt C (qs.map (fun q => -q)) i v H2) → spLeast K C [.ref D] H2 Q E0 := fun D bs H2 e2 hb hl hv => by
      refine ⟨D, bs, qs.map (fun q => -q), rfl, .inl (SqL.of hb), ⟨by rw [List.length_map]; omega, fun i v q h1 h2 => ?_⟩, by omega, by omega, fun q hm => ?_, fun H3 e3 => ?_⟩
      · obtain ⟨a, q', rfl, h3, r⟩ := hv i v h1
        rw [h2] at h3
        rw [Option.some.inj h3]
        exact r.num
      · obtain ⟨r, hr1, rfl⟩ := List.mem_map.mp hm
        exact sz r (hq r hr1)
      · rw [List.length_map]
        exact k H3 ((e1.trans e2).trans e3)
    rcases hx.ex e1 with hx1 | hx1
    · exact .inl ⟨_, rfl, l, rfl, ⟨xs, hx1⟩, fun D hD => lc_rel (RatsAt C (qs.map (fun q => -q))) rats_stab rats_st hD hx1 (by omega) (fun _ => rfl) step fun bs H2 e2 hb hl hv => fin D bs H2 e2 hb hl hv⟩
    · exact .inr ⟨_, rfl, l, rfl, ⟨xs, hx1⟩, fun D hD => lc_relT (RatsAt C (qs.map (fun q => -q))) rats_stab rats_st hD hx1 (by omega) (fun _ => rfl) step fun bs H2 e2 hb hl hv => fin D bs H2 e2 hb hl hv⟩
/-! ## what all laws draw by: cells, bags, digits -/
abbrev s__law_cell : Stmt := top 25
theorem sc__law_cell : FnScope ["_law_script", "_law_index"] ["_law_script", "_law_index"] (defScope s__law_cell) := ⟨rfl, rfl, rfl, by decide +kernel, rfl, by decide +kernel, by decide +kernel⟩
abbrev s__law_bag : Stmt := top 26
theorem sc__law_bag : FnScope ["_law_cell_here"] ["_law_cell_here"] (defScope s__law_bag) := ⟨rfl, rfl, rfl, by decide +kernel, rfl, by decide +kernel, by decide +kernel⟩
abbrev s__law_take : Stmt := top 27
theorem sc__law_take : FnScope ["_law_bag_here", "_law_many", "_law_digit", "_law_mixed"] ["_law_bag_here", "_law_many"] (defScope s__law_take) := ⟨rfl, rfl, rfl, by decide +kernel, rfl, by decide +kernel, by decide +kernel⟩
def spCell (K : Fg) : Sp := fun vs H Q _ => ∃ (s : Addr) (i : Int) (ns : List Int), vs = [.ref s, .int i] ∧ SqL K H s (ns.map V.int) ∧ 0 ≤ i ∧ i < 1000000 ∧ ns.length ≤ 100000 ∧ ∀ c, Q (.int c) H
theorem ok_cell (F : FnP K "_law_cell" "_law_cell" s__law_cell [] f fd) (m_len : mg "len" = none) : FnX P w K mg base 1 f fd ["_law_script", "_law_index"] (spCell K) := by
  refine F.ok sc__law_cell (fun vs H Q E h => ?_) (fun cdv A outer s H vs Q E hr h => ?_)
  · obtain ⟨s, i, ns, rfl, _⟩ := h
    rfl
  · obtain ⟨sc, i, ns, rfl, hS, h0, h1, hz, k⟩ := h
    refine ⟨_, (pss_cons (ps_if (pt_cmpR op_lt (pv 1) (pe_callB call_len (by rfl) m_len (by decide +kernel) (pa_cons (pv 0) pa_nil)) (nomark _)) (pss_one (ps_ret (pe_ix ix_list (pv 0) (pv 1) (fun _ _ => rfl)))) pss_nil)
      (pss_one (ps_ret (pe_op op_add (pe_op op_mulW pe_int (pv 1)) pe_int)))), ?_⟩
    refine ⟨_, rfl, _, rfl, .ref sc, ns.length, rfl, .inl ⟨_, hS, (List.length_map _).symm⟩, _, _, rfl, rfl, _, rfl, ite2 (fun e => ?_) (fun e => ?_)⟩
    · have e := of_decide_eq_true e
      refine ⟨_, rfl, _, rfl, sc, _, _, .int (ns.getD i.toNat 0), rfl, rfl, hS, at_of (j := i.toNat) (by omega) ?_, k _⟩
      rw [List.getElem?_map, List.getD_eq_getElem?_getD, List.getElem?_eq_getElem (show i.toNat < ns.length by omega)]
      rfl
    · exact ⟨_, rfl, _, _, rfl, rfl, wide_mul (a := 64) (b := 64) (by decide) (by omega) (by decide) (by decide) (by decide), _, _, rfl, rfl, k _⟩
def spBag : Sp := fun vs H Q _ => ∃ c, vs = [.int c] ∧ ∀ m H', H m = none → Ex H H' → BagAt H' m 0 → Q (.ref m) H'
theorem ok_bag (F : FnP K "_law_bag" "_law_bag" s__law_bag [] f fd) (m_max : mg "max" = none) : FnX P w K mg base 1 f fd ["_law_cell_here"] spBag := by
  refine F.ok sc__law_bag (fun vs H Q E h => ?_) (fun cdv A outer s H vs Q E hr h => ?_)
  · obtain ⟨c, rfl, _⟩ := h
    rfl
  · obtain ⟨c, rfl, k⟩ := h
    refine ⟨_, (pss_one (ps_ret (pe_lst (pa_cons (pe_callB (call_max2 rfl) (by rfl) m_max (by decide +kernel) (pa_cons pe_int (pa_cons (pe_op op_sub (pv 0) (pe_op op_pow pe_int pe_int)) pa_nil))) (pa_cons (pe_op op_mod (pv 0) pe_int) (pa_cons pe_int pa_nil)))))), ?_⟩
    refine ⟨_, rfl, _, _, rfl, rfl, ⟨by decide, by decide, by decide⟩, _, _, rfl, rfl, _, _, rfl, _, rfl, _, _, rfl, rfl, (by show (0 : Int) < 2147483629; decide), (by show 3 ≤ sizeLine; decide), fun m hm => k m _ hm (Ex.new hm) ⟨_, _, _, upd_same, ?_, ?_, ?_, ?_, ?_⟩⟩
    · split <;> omega
    · exact Int.emod_nonneg _ (by decide)
    · exact Int.emod_lt_of_pos _ (by decide)
    · decide
    · decide
theorem pow_in {a z : Int} (h0 : 0 ≤ z) (h1 : z ≤ 1073741824) : (a % 2147483647 + 104729 * z).natAbs < 2 ^ 64 := by
  have := Int.emod_nonneg a (show (2147483647 : Int) ≠ 0 by decide)
  have := Int.emod_lt_of_pos a (show (0 : Int) < 2147483647 by decide)
  omega
def spTake : Sp := fun vs H Q _ => ∃ m k n, vs = [.ref m, .int k] ∧ 0 < k ∧ k.natAbs < 2 ^ 9000 ∧ BagAt H m n ∧ n < 2 ^ 30 ∧ ∀ r H', 0 ≤ r → r < k → Kp m H H' → BagAt H' m (n + 1) → Q (.int r) H'
theorem ok_take (F : FnP K "_law_take" "_law_take" s__law_take [] f fd) : FnX P w K mg base 1 f fd ["_law_bag_here", "_law_many"] spTake := by
  refine F.ok sc__law_take (fun vs H Q E h => ?_) (fun cdv A outer s H vs Q E hr h => ?_)
  · obtain ⟨m, k, n, rfl, _⟩ := h
    rfl
  · obtain ⟨m, many, n, rfl, h0, hs, ⟨x, y, z, hm, hx, hy, hy2, hz, hz2⟩, hn, k⟩ := h
    refine ⟨_, (pss_cons (ps_if (pt_cmpR op_gt (pe_ix ix_list (pv 0) pe_int (fun _ _ => rfl)) pe_int (nomark _)) (pss_cons (ps_asg (pe_op op_mod (pe_ix ix_list (pv 0) pe_int (fun _ _ => rfl)) (pv 1)) (pg_name (i := 2) sc__law_take.nd rfl (.inl rfl)))
      (pss_cons (ps_asg (pe_op op_fdivW (pe_ix ix_list (pv 0) pe_int (fun _ _ => rfl)) (pv 1)) (pg_sub (pv 0) pe_int set_list))
      (pss_one (ps_ret (pv 2))))) pss_nil)
      (pss_cons (ps_asg (pe_op op_add (pe_ix ix_list (pv 0) pe_int (fun _ _ => rfl)) pe_int) (pg_sub (pv 0) pe_int set_list))
      (pss_cons (ps_asg (pe_op op_mod (pe_op op_pow (pe_op op_add (pe_op op_add (pe_ix ix_list (pv 0) pe_int (fun _ _ => rfl)) (pe_op op_mulW pe_int (pe_ix ix_list (pv 0) pe_int (fun _ _ => rfl)))) pe_int) pe_int) pe_int) (pg_name (i := 3) sc__law_take.nd rfl (.inl rfl)))
      (pss_cons (ps_asg (pe_op op_mod (pe_op op_pow (pe_op op_add (pv 3) (pe_op op_mulW pe_int (pe_ix ix_list (pv 0) pe_int (fun _ _ => rfl)))) pe_int) pe_int) (pg_name (i := 3) sc__law_take.nd rfl (.inl rfl)))
      (pss_one (ps_ret (pe_op op_mod (pe_op op_fdivW (pv 3) pe_int) (pv 1)))))))), ?_⟩
    have g0 : atI ([.int x, .int y, .int z] : List V) 0 = some (.int x) := at_of (j := 0) rfl rfl
    have g1 : atI ([.int x, .int y, .int z] : List V) 1 = some (.int y) := at_of (j := 1) rfl rfl
    have g2 : atI ([.int x, .int y, .int z] : List V) 2 = some (.int z) := at_of (j := 2) rfl rfl
    have hn' : (n : Int) < 1073741824 := by
      have : (2 : Nat) ^ 30 = 1073741824 := by decide
      omega
    refine ⟨_, rfl, m, _, _, _, rfl, rfl, SqL.of hm, g0, _, _, rfl, rfl, _, rfl, ite2 (fun e => ?_) (fun e => ?_)⟩
    · have e := of_decide_eq_true e
      refine ⟨_, rfl, m, _, _, _, rfl, rfl, SqL.of hm, g0, _, rfl, _, _, rfl, rfl, h0, ?_⟩
      refine ⟨_, rfl, m, _, _, _, rfl, rfl, SqL.of hm, g0, _, rfl, _, _, rfl, rfl, wide_div (b := 9000) h0 hs (by decide) (by decide), ?_⟩
      refine ⟨_, rfl, m, _, _, 0, rfl, rfl, hm, rfl, ?_⟩
      refine ⟨_, rfl, k _ _ (Int.emod_nonneg _ (by omega)) (Int.emod_lt_of_pos _ h0) Kp.set ⟨x / many, y, z, upd_same, Int.ediv_nonneg (by omega) (by omega), hy, hy2, hz, by omega⟩⟩
    · refine ⟨_, rfl, m, _, _, _, rfl, rfl, SqL.of hm, g2, _, _, rfl, rfl, _, rfl, m, _, _, 2, rfl, rfl, hm, rfl, ?_⟩
      have hm2 : (upd H m (.lst [.int x, .int y, .int (z + 1)])) m = some (.lst [.int x, .int y, .int (z + 1)]) := upd_same
      have g1' : atI ([.int x, .int y, .int (z + 1)] : List V) 1 = some (.int y) := at_of (j := 1) rfl rfl
      have g2' : atI ([.int x, .int y, .int (z + 1)] : List V) 2 = some (.int (z + 1)) := at_of (j := 2) rfl rfl
      refine ⟨_, rfl, m, _, _, _, rfl, rfl, SqL.of hm2, g1', _, rfl, m, _, _, _, rfl, rfl, SqL.of hm2, g2', _, _, rfl, rfl, wide_mul (a := 64) (b := 64) (by decide) (by omega) (by decide) (by decide) (by decide), _, _, rfl, rfl, _, _, rfl, rfl, _, _, rfl, rfl, ⟨by decide, by decide, by omega⟩, _, _, rfl, rfl, (by show (0 : Int) < 2147483647; decide), ?_⟩
      refine ⟨_, rfl, _, rfl, m, _, _, _, rfl, rfl, SqL.of hm2, g2', _, _, rfl, rfl, wide_mul (a := 64) (b := 64) (by decide) (by omega) (by decide) (by decide) (by decide), _, _, rfl, rfl, _, _, rfl, rfl, ⟨by decide, by decide, pow_in (by omega) (by omega)⟩, _, _, rfl, rfl, (by show (0 : Int) < 2147483587; decide), ?_⟩
      refine ⟨_, rfl, _, _, rfl, rfl, ⟨by decide, by decide⟩, _, rfl, _, _, rfl, rfl, h0, ?_⟩
      exact k _ _ (Int.emod_nonneg _ (by omega)) (Int.emod_lt_of_pos _ h0) Kp.set ⟨x, y, z + 1, upd_same, hx, hy, hy2, by omega, by omega⟩
/-! ## a law's own quotients: tuples of top and bottom -/
abbrev s__law_frac : Stmt := top 28
theorem sc__law_frac : FnScope ["_law_up", "_law_down", "_law_one", "_law_other"] ["_law_up", "_law_down"] (defScope s__law_frac) := ⟨rfl, rfl, rfl, by decide +kernel, rfl, by decide +kernel, by decide +kernel⟩
def spFrac : Sp := fun vs H Q _ => ∃ u d, vs = [.int u, .int d] ∧ d ≠ 0 ∧ d.natAbs < 2 ^ 9000 ∧ RetPair H Q (Rat.divInt u d)
theorem ok_frac (F : FnP K "_law_frac" "_law_frac" s__law_frac [] f fd) (m_abs : mg "abs" = none) : FnX P w K mg base 1 f fd ["_law_up", "_law_down"] spFrac := by
  refine F.ok sc__law_frac (fun vs H Q E h => ?_) (fun cdv A outer s H vs Q E hr h => ?_)
  · obtain ⟨u, d, rfl, _⟩ := h
    rfl
  · obtain ⟨u, d, rfl, hd, hs, k⟩ := h
    refine ⟨_, (pss_cons (ps_par (i := 2) (j := 3) (by rfl) sc__law_frac.nd rfl rfl (by decide) rfl rfl (pa_cons (pe_callB call_abs (by rfl) m_abs (by decide +kernel) (pa_cons (pv 0) pa_nil)) (pa_cons (pe_callB call_abs (by rfl) m_abs (by decide +kernel) (pa_cons (pv 1) pa_nil)) pa_nil)) (by rfl))
      (pss_cons (ps_while (passes_of rfl) (pt_cmpR op_ne (pv 3) pe_int (nomark _)) (pss_one (ps_par (i := 2) (j := 3) (by rfl) sc__law_frac.nd rfl rfl (by decide) rfl rfl (pa_cons (pv 3) (pa_cons (pe_op op_mod (pv 2) (pv 3)) pa_nil)) (by rfl))))
      (pss_cons (ps_asg (pe_ifExp (pt_cmpR op_gt (pv 1) pe_int (nomark _)) (pv 2) (pe_un un_neg (pv 2))) (pg_name (i := 2) sc__law_frac.nd rfl (.inl rfl)))
      (pss_one (ps_ret (pe_tup (pa_cons (pe_op op_divA (pv 0) (pv 2)) (pa_cons (pe_op op_divA (pv 1) (pv 2)) pa_nil)))))))), ?_⟩
    have ab : ∀ i : Int, (if i < 0 then -i else i) = ((i.natAbs : Nat) : Int) := fun i => by split <;> omega
    refine ⟨_, rfl, _, rfl, _, rfl, _, rfl, _, _, rfl, ?_⟩
    rw [ab, ab]
    refine while_by (fun σ H' => H' = H ∧ ∃ a b : Int, σ = [some (.int u), some (.int d), some (.int a), some (.int b)] ∧ 0 ≤ a ∧ 0 ≤ b ∧ Nat.gcd a.natAbs b.natAbs = Nat.gcd u.natAbs d.natAbs) (fun σ _ => match σ with
      | [_, _, _, some (.int b)] => b.toNat
      | _ => 0) ⟨rfl, _, _, rfl, by omega, by omega, rfl⟩ ?_ ?_
    · rintro σ H' ⟨rfl, a, b, rfl, ha, hb, hg⟩
      refine ⟨_, rfl, rfl, _, rfl, ?_⟩
      by_cases hz : b = 0
      · rw [decide_eq_true (congrArg V.int hz)]
        refine iteF ?_
        subst hz
        have ea : a = ((Nat.gcd u.natAbs d.natAbs : Nat) : Int) := by
          rw [← hg]
          simp
          omega
        have hl : a.natAbs < 2 ^ 9000 := by
          rw [ea]
          exact Nat.lt_of_le_of_lt (by have := gcd_le u d hd; omega) hs
        have h0 := gcd_ne u d hd
        refine ⟨_, rfl, _, _, rfl, rfl, _, rfl, ?_⟩
        have fin : ∀ c : Int, c = (if 0 < d then ((Nat.gcd u.natAbs d.natAbs : Nat) : Int) else -((Nat.gcd u.natAbs d.natAbs : Nat) : Int)) → c.natAbs < 2 ^ 9000 → c ≠ 0 →
            tRet (tTup (tCons (tOp (rI DivA fun i j => .int (i.fdiv j)) (tVar 0) (tVar 2)) (tCons (tOp (rI DivA fun i j => .int (i.fdiv j)) (tVar 1) (tVar 2)) tNil))) { nx := fun _ H' => Q .non H', rt := Q } [some (.int u), some (.int d), some (.int c), some (.int 0)] H' := fun c hc l n => by
          refine ⟨_, rfl, _, rfl, _, _, rfl, rfl, divA n l (by decide), _, rfl, _, rfl, _, _, rfl, rfl, divA n l (by decide), (by show 2 ≤ sizeLine; decide), fun p hp => k p _ hp (Ex.new hp) ?_⟩
          show upd H' p (.tup [.int (u.fdiv c), .int (d.fdiv c)]) p = _
          rw [upd_same, frac_num u d hd c hc, frac_den u d hd c hc]
        refine ite2 (fun e => ?_) (fun e => ?_)
        · have e := of_decide_eq_true e
          exact ⟨_, rfl, fin a (by rw [if_pos e]; exact ea) hl (by omega)⟩
        · have e := fun z => e (decide_eq_true z)
          exact ⟨_, rfl, _, rfl, fin (-a) (by rw [if_neg e, ea]) (by rw [Int.natAbs_neg]; exact hl) (by omega)⟩
      · rw [decide_eq_false (fun z => hz (V.int.inj z))]
        refine iteT ?_
        have hb' : 0 < b := by omega
        refine ⟨_, rfl, _, rfl, _, rfl, _, _, rfl, rfl, hb', _, _, rfl, ⟨rfl, b, a % b, rfl, hb, Int.emod_nonneg _ hz, (euclid ha hb').trans hg⟩, ?_⟩
        have h1 := Int.emod_nonneg a hz
        have h2 := Int.emod_lt_of_pos a hb'
        show (a % b).toNat < b.toNat
        omega
    · rintro σ H' Q1 Q2 hq ⟨v, h1, h2, k', h3, h4⟩
      exact ⟨v, h1, h2, k', h3, hq _ _ h4⟩
/-! ## what callers of Ratio lean on -/
theorem rat_new {H : Hp} {p dp : Addr} (hp : H p = none) (hdp : H dp = none) (q : Rat) : Ex H (upd (upd H dp (.own p)) p (.ins C dp (ratF q))) ∧ RatAt C (upd (upd H dp (.own p)) p (.ins C dp (ratF q))) p q := ⟨(Ex.new hdp).mut hp, dp, upd_same⟩
theorem RatAt.is {H : Hp} {a : Addr} {q : Rat} (r : RatAt C H a q) : ∃ a' dx fs, V.ref a = .ref a' ∧ H a' = some (.ins C dx fs) := r.elim fun dx h => ⟨a, dx, _, rfl, h⟩
theorem NumAt.right {H : Hp} {v : V} {q : Rat} (hs : PySem.W.subIn K (.type "int") (.ref C) = some false) (r : NumAt C H v q) : Right K C H v := by
  rcases r with ⟨i, rfl, _⟩ | ⟨a, rfl, dx, h⟩
  · exact .inr ⟨"int", .base (.int i), hs⟩
  · exact .inl ⟨a, dx, _, rfl, h⟩
theorem NumAt.right2 {H : Hp} {v : V} {q : Rat} (hs : PySem.W.subIn K (.type "int") (.ref C) = some false) (r : NumAt C H v q) : (∃ b dy gs, v = .ref b ∧ H b = some (.ins C dy gs)) ∨ ∃ i, v = .int i := by
  rcases r with ⟨i, rfl, _⟩ | ⟨a, rfl, dx, h⟩
  · exact .inr ⟨i, rfl⟩
  · exact .inl ⟨a, dx, _, rfl, h⟩
/-- a quotient and an equal integer, in a list -/
def DRat (C : Addr) : Eqv := fun x y H => ∃ a i, x = .ref a ∧ y = .int i ∧ RatAt C H a (i : Rat)
theorem mon_rat : Mon (DRat C) := fun x y H H' e ⟨a, i, hx, hy, r⟩ => ⟨a, i, hx, hy, r.ex e⟩
theorem eqG_rat {X : Cx} (e : EqOk X.prog X.w X.K X.mg X.base 3 C (spEqR X.K C)) (hs : PySem.W.subIn X.K (.type "int") (.ref C) = some false) : EqG X 3 (DRat C) := by
  intro A pins s σ H x y u v sb I rx ry ⟨a, i, ex, ey, r⟩
  subst ex ey
  cases (show u = Value.ref a from rx)
  obtain ⟨t, ev⟩ := (show ∃ t, v = Value.int i t from ry)
  subst ev
  obtain ⟨f, fd, ps, h1, h2, b, F⟩ := e.ex
  obtain ⟨dx, ea⟩ := id r
  obtain ⟨mA, O, _⟩ := ins_get I.hok ea
  obtain ⟨od, J, _⟩ := O.look
  obtain ⟨m, fr⟩ := I.fr
  have L : PySem.W.Looks (model X.prog X.w) s.heap (typeOf (.int i t)) (.type "int") := .of_pure rfl
  have n : PySem.W.notFirst X.K C (.type "int") = true := by simp [PySem.W.notFirst, hs]
  have go := PySem.W.cmp_K (op := .Eq) sb.room.units0 fr I.ok.mod.kin J L n h1 h2 (wpAny_mono (run_sign F sb.room sb.fr b I (.cons (show RelV (.ref a) (.ref a) from rfl) (.cons (show RelV (.int i) (.int i t) from ⟨t, rfl⟩) .nil)) (Q := fun v H' => v = .bl true ∧ Ex H H') ⟨a, .int i, _, rfl, r, .inl ⟨(i : Rat), .inl ⟨i, rfl, rfl⟩, by rw [decide_eq_true rfl]; exact ⟨rfl, Ex.rfl⟩⟩⟩) (fun u' s' q => by
      obtain ⟨v', H', I', r', q'⟩ := q
      exact CmpBack.of (Q := EP X pins σ fun v H' => v = .bl true ∧ Ex H H') r' ⟨v', H', I', r', q'⟩) fun _ _ z => z)
  unfold eqBool
  refine wpAny_holding (wpAny_ite_split (fun hab => ?_) fun _ => ?_)
  · have z := eq_of_beq hab
    cases z
  · refine wpAny_bind (wpAny_mono go (fun u' s' q => ?_) fun _ _ z => z)
    obtain ⟨v', H', I', r', ev, ex⟩ := q
    subst ev
    cases (show u' = Value.bool true from r')
    exact wpAny_truthy_bool ⟨rfl, H', I', ex⟩
/-- the class over the built-in types -/
structure RatO (K : Fg) (C : Addr) : Prop where
  si : PySem.W.subIn K (.type "int") (.ref C) = some false
  so : ∀ n ∈ ["NoneType", "bool", "str", "list", "tuple", "dict"], PySem.W.subIn K (.type n) (.ref C) = some false
  ko : ∀ n ∈ ["NoneType", "bool", "str", "list", "tuple", "dict"], PySem.W.kitOne K (.type n) (.ref C) = some false
/-- a thing that is no number -/
structure Odd (K : Fg) (C : Addr) (H : Hp) (x : V) : Prop where
  ex : ∃ n ∈ ["NoneType", "bool", "str", "list", "tuple", "dict"], TyX K H x (.type n)
theorem isB_ty {H : Hp} {x : V} (ty : TyX K H x (.type "bool")) : isB x = true := by
  generalize ht : Value.type "bool" = t at ty
  have nb : ∀ n : String, n ≠ "bool" → Value.type "bool" ≠ .type n := fun n h z => h (by injection z with z; exact z.symm)
  cases ty with
  | base b => cases b <;> first | rfl | exact absurd ht (nb _ (by decide)) | cases ht
  | _ => first | exact absurd ht (nb _ (by decide)) | cases ht
theorem Odd.tyn {H : Hp} {x : V} (o : Odd K C H x) (T : RatO K C) : TyN K C H x false false := by
  obtain ⟨n, hn, ty⟩ := o.ex
  have hk := T.ko n hn
  simp only [List.mem_cons, List.not_mem_nil, or_false] at hn
  rcases hn with rfl | rfl | rfl | rfl | rfl | rfl
  · exact ⟨_, false, ty, kit_ty (by decide +kernel), rfl, hk⟩
  · exact ⟨_, true, ty, kit_ty (by decide +kernel), by rw [isB_ty ty]; rfl, hk⟩
  · exact ⟨_, false, ty, kit_ty (by decide +kernel), rfl, hk⟩
  · exact ⟨_, false, ty, kit_ty (by decide +kernel), rfl, hk⟩
  · exact ⟨_, false, ty, kit_ty (by decide +kernel), rfl, hk⟩
  · exact ⟨_, false, ty, kit_ty (by decide +kernel), rfl, hk⟩
theorem Odd.right {H : Hp} {x : V} (o : Odd K C H x) (T : RatO K C) : Right K C H x := by
  obtain ⟨n, hn, ty⟩ := o.ex
  exact .inr ⟨n, ty, T.so n hn⟩
/-! ## the law of ratios reckoned -/
theorem ix0 {a b : V} : atI [a, b] 0 = some a := at_of (j := 0) rfl rfl
theorem ix1 {a b : V} : atI [a, b] 1 = some b := at_of (j := 1) rfl rfl
def spArith (g : Rat → Rat → Rat) : Sp := fun vs H Q _ => ∃ p r q s, vs = [.ref p, .ref r] ∧ RPair H p q ∧ RPair H r s ∧ Sz 4000 q ∧ Sz 4000 s ∧ RetPair H Q (g q s)
abbrev s__law_plus : Stmt := top 29
theorem sc__law_plus : FnScope ["_law_x", "_law_y"] ["_law_x", "_law_y"] (defScope s__law_plus) := ⟨rfl, rfl, rfl, by decide +kernel, rfl, by decide +kernel, by decide +kernel⟩
theorem ok_plus (F : FnP K "_law_plus" "_law_plus" s__law_plus [] f fd) (c__law_frac : Callee P w K mg base 1 "_law_frac" ["_law_up", "_law_down"] spFrac) : FnX P w K mg base 2 f fd ["_law_x", "_law_y"] (spArith (fun q s => q + s)) := by
  refine F.ok sc__law_plus (fun vs H Q E h => ?_) (fun cdv A outer s H vs Q E hr h => ?_)
  · obtain ⟨p, r, q, s, rfl, _⟩ := h
    rfl
  · obtain ⟨p, r, q, s, rfl, hp, hq, zp, zq, k⟩ := h
    refine ⟨_, (pss_one (ps_ret (pe_callee c__law_frac (hr.mono (by decide)) (pa_cons (pe_op op_add (pe_op op_mulW (pe_ix ix_tup (pv 0) pe_int (fun _ _ => rfl)) (pe_ix ix_tup (pv 1) pe_int (fun _ _ => rfl))) (pe_op op_mulW (pe_ix ix_tup (pv 1) pe_int (fun _ _ => rfl)) (pe_ix ix_tup (pv 0) pe_int (fun _ _ => rfl)))) (pa_cons (pe_op op_mulW (pe_ix ix_tup (pv 0) pe_int (fun _ _ => rfl)) (pe_ix ix_tup (pv 1) pe_int (fun _ _ => rfl))) pa_nil))))), ?_⟩
    refine ⟨_, rfl, p, _, _, _, rfl, rfl, (hp).sq, ix0, _, rfl, r, _, _, _, rfl, rfl, (hq).sq, ix1, _, _, rfl, rfl, sz_mul zp.1 (sz_den zq) (by decide) (by decide), _, rfl, r, _, _, _, rfl, rfl, (hq).sq, ix0, _, rfl, p, _, _, _, rfl, rfl, (hp).sq, ix1, _, _, rfl, rfl, sz_mul zq.1 (sz_den zp) (by decide) (by decide), _, _, rfl, rfl, ?_⟩
    exact ⟨_, rfl, p, _, _, _, rfl, rfl, (hp).sq, ix1, _, rfl, r, _, _, _, rfl, rfl, (hq).sq, ix1, _, _, rfl, rfl, sz_mul (sz_den zp) (sz_den zq) (by decide) (by decide), _, _, rfl, den_mul_ne q s, den_mul_lt zp zq, fun t H' n e h => k t H' n e (by rw [add_eq] at h; exact h)⟩
abbrev s__law_minus : Stmt := top 30
theorem sc__law_minus : FnScope ["_law_x", "_law_y"] ["_law_x", "_law_y"] (defScope s__law_minus) := ⟨rfl, rfl, rfl, by decide +kernel, rfl, by decide +kernel, by decide +kernel⟩
theorem ok_minus (F : FnP K "_law_minus" "_law_minus" s__law_minus [] f fd) (c__law_frac : Callee P w K mg base 1 "_law_frac" ["_law_up", "_law_down"] spFrac) : FnX P w K mg base 2 f fd ["_law_x", "_law_y"] (spArith (fun q s => q - s)) := by
  refine F.ok sc__law_minus (fun vs H Q E h => ?_) (fun cdv A outer s H vs Q E hr h => ?_)
  · obtain ⟨p, r, q, s, rfl, _⟩ := h
    rfl
  · obtain ⟨p, r, q, s, rfl, hp, hq, zp, zq, k⟩ := h
    refine ⟨_, (pss_one (ps_ret (pe_callee c__law_frac (hr.mono (by decide)) (pa_cons (pe_op op_sub (pe_op op_mulW (pe_ix ix_tup (pv 0) pe_int (fun _ _ => rfl)) (pe_ix ix_tup (pv 1) pe_int (fun _ _ => rfl))) (pe_op op_mulW (pe_ix ix_tup (pv 1) pe_int (fun _ _ => rfl)) (pe_ix ix_tup (pv 0) pe_int (fun _ _ => rfl)))) (pa_cons (pe_op op_mulW (pe_ix ix_tup (pv 0) pe_int (fun _ _ => rfl)) (pe_ix ix_tup (pv 1) pe_int (fun _ _ => rfl))) pa_nil))))), ?_⟩
    refine ⟨_, rfl, p, _, _, _, rfl, rfl, (hp).sq, ix0, _, rfl, r, _, _, _, rfl, rfl, (hq).sq, ix1, _, _, rfl, rfl, sz_mul zp.1 (sz_den zq) (by decide) (by decide), _, rfl, r, _, _, _, rfl, rfl, (hq).sq, ix0, _, rfl, p, _, _, _, rfl, rfl, (hp).sq, ix1, _, _, rfl, rfl, sz_mul zq.1 (sz_den zp) (by decide) (by decide), _, _, rfl, rfl, ?_⟩
    exact ⟨_, rfl, p, _, _, _, rfl, rfl, (hp).sq, ix1, _, rfl, r, _, _, _, rfl, rfl, (hq).sq, ix1, _, _, rfl, rfl, sz_mul (sz_den zp) (sz_den zq) (by decide) (by decide), _, _, rfl, den_mul_ne q s, den_mul_lt zp zq, fun t H' n e h => k t H' n e (by rw [sub_eq] at h; exact h)⟩
abbrev s__law_times : Stmt := top 31
theorem sc__law_times : FnScope ["_law_x", "_law_y"] ["_law_x", "_law_y"] (defScope s__law_times) := ⟨rfl, rfl, rfl, by decide +kernel, rfl, by decide +kernel, by decide +kernel⟩
theorem ok_times (F : FnP K "_law_times" "_law_times" s__law_times [] f fd) (c__law_frac : Callee P w K mg base 1 "_law_frac" ["_law_up", "_law_down"] spFrac) : FnX P w K mg base 2 f fd ["_law_x", "_law_y"] (spArith (fun q s => q * s)) := by
  refine F.ok sc__law_times (fun vs H Q E h => ?_) (fun cdv A outer s H vs Q E hr h => ?_)
  · obtain ⟨p, r, q, s, rfl, _⟩ := h
    rfl
  · obtain ⟨p, r, q, s, rfl, hp, hq, zp, zq, k⟩ := h
    refine ⟨_, (pss_one (ps_ret (pe_callee c__law_frac (hr.mono (by decide)) (pa_cons (pe_op op_mulW (pe_ix ix_tup (pv 0) pe_int (fun _ _ => rfl)) (pe_ix ix_tup (pv 1) pe_int (fun _ _ => rfl))) (pa_cons (pe_op op_mulW (pe_ix ix_tup (pv 0) pe_int (fun _ _ => rfl)) (pe_ix ix_tup (pv 1) pe_int (fun _ _ => rfl))) pa_nil))))), ?_⟩
    refine ⟨_, rfl, p, _, _, _, rfl, rfl, (hp).sq, ix0, _, rfl, r, _, _, _, rfl, rfl, (hq).sq, ix0, _, _, rfl, rfl, sz_mul zp.1 zq.1 (by decide) (by decide), ?_⟩
    exact ⟨_, rfl, p, _, _, _, rfl, rfl, (hp).sq, ix1, _, rfl, r, _, _, _, rfl, rfl, (hq).sq, ix1, _, _, rfl, rfl, sz_mul (sz_den zp) (sz_den zq) (by decide) (by decide), _, _, rfl, den_mul_ne q s, den_mul_lt zp zq, fun t H' n e h => k t H' n e (by rw [mul_eq] at h; exact h)⟩
abbrev s__law_over : Stmt := top 32
theorem sc__law_over : FnScope ["_law_x", "_law_y"] ["_law_x", "_law_y"] (defScope s__law_over) := ⟨rfl, rfl, rfl, by decide +kernel, rfl, by decide +kernel, by decide +kernel⟩
def spLawOver : Sp := fun vs H Q _ => ∃ p r q s, vs = [.ref p, .ref r] ∧ RPair H p q ∧ RPair H r s ∧ Sz 4000 q ∧ Sz 4000 s ∧ s ≠ 0 ∧ RetPair H Q (q / s)
theorem ok_law_over (F : FnP K "_law_over" "_law_over" s__law_over [] f fd) (c__law_frac : Callee P w K mg base 1 "_law_frac" ["_law_up", "_law_down"] spFrac) : FnX P w K mg base 2 f fd ["_law_x", "_law_y"] spLawOver := by
  refine F.ok sc__law_over (fun vs H Q E h => ?_) (fun cdv A outer s H vs Q E hr h => ?_)
  · obtain ⟨p, r, q, s, rfl, _⟩ := h
    rfl
  · obtain ⟨p, r, q, s, rfl, hp, hq, zp, zq, h0, k⟩ := h
    refine ⟨_, (pss_one (ps_ret (pe_callee c__law_frac (hr.mono (by decide)) (pa_cons (pe_op op_mulW (pe_ix ix_tup (pv 0) pe_int (fun _ _ => rfl)) (pe_ix ix_tup (pv 1) pe_int (fun _ _ => rfl))) (pa_cons (pe_op op_mulW (pe_ix ix_tup (pv 0) pe_int (fun _ _ => rfl)) (pe_ix ix_tup (pv 1) pe_int (fun _ _ => rfl))) pa_nil))))), ?_⟩
    refine ⟨_, rfl, p, _, _, _, rfl, rfl, (hp).sq, ix0, _, rfl, r, _, _, _, rfl, rfl, (hq).sq, ix1, _, _, rfl, rfl, sz_mul zp.1 (sz_den zq) (by decide) (by decide), _, rfl, p, _, _, _, rfl, rfl, (hp).sq, ix1, _, rfl, r, _, _, _, rfl, rfl, (hq).sq, ix0, _, _, rfl, rfl, sz_mul (sz_den zp) zq.1 (by decide) (by decide), _, _, rfl, ?_, ?_, fun t H' n e h => k t H' n e (by rw [over_eq] at h; exact h)⟩
    · have := den_pos q
      rw [Ne, Int.mul_eq_zero, Rat.num_eq_zero]
      rintro (z | z)
      · omega
      · exact h0 z
    · exact Nat.lt_of_lt_of_le (wide_lt (sz_den zp) zq.1) (Nat.pow_le_pow_right (by decide) (by decide))
abbrev s__law_less : Stmt := top 33
theorem sc__law_less : FnScope ["_law_x", "_law_y"] ["_law_x", "_law_y"] (defScope s__law_less) := ⟨rfl, rfl, rfl, by decide +kernel, rfl, by decide +kernel, by decide +kernel⟩
def spLess : Sp := fun vs H Q _ => ∃ p r q s, vs = [.ref p, .ref r] ∧ RPair H p q ∧ RPair H r s ∧ Sz 4000 q ∧ Sz 4000 s ∧ Q (.bl (decide (q < s))) H
theorem ok_less (F : FnP K "_law_less" "_law_less" s__law_less [] f fd) : FnX P w K mg base 1 f fd ["_law_x", "_law_y"] spLess := by
  refine F.ok sc__law_less (fun vs H Q E h => ?_) (fun cdv A outer s H vs Q E hr h => ?_)
  · obtain ⟨p, r, q, s, rfl, _⟩ := h
    rfl
  · obtain ⟨p, r, q, s, rfl, hp, hq, zp, zq, k⟩ := h
    refine ⟨_, (pss_one (ps_ret (pe_cmpR op_lt (pe_op op_mulW (pe_ix ix_tup (pv 0) pe_int (fun _ _ => rfl)) (pe_ix ix_tup (pv 1) pe_int (fun _ _ => rfl))) (pe_op op_mulW (pe_ix ix_tup (pv 1) pe_int (fun _ _ => rfl)) (pe_ix ix_tup (pv 0) pe_int (fun _ _ => rfl))) (nomark _)))), ?_⟩
    rw [← lt_dec] at k
    exact ⟨_, rfl, p, _, _, _, rfl, rfl, (hp).sq, ix0, _, rfl, r, _, _, _, rfl, rfl, (hq).sq, ix1, _, _, rfl, rfl, sz_mul zp.1 (sz_den zq) (by decide) (by decide), _, rfl, r, _, _, _, rfl, rfl, (hq).sq, ix0, _, rfl, p, _, _, _, rfl, rfl, (hp).sq, ix1, _, _, rfl, rfl, sz_mul zq.1 (sz_den zp) (by decide) (by decide), _, _, rfl, rfl, k⟩
abbrev s__law_told : Stmt := top 34
theorem sc__law_told : FnScope ["_law_figure"] ["_law_figure"] (defScope s__law_told) := ⟨rfl, rfl, rfl, by decide +kernel, rfl, by decide +kernel, by decide +kernel⟩
def spTold (C : Addr) : Sp := fun vs H Q _ => ∃ a q, vs = [.ref a] ∧ RatAt C H a q ∧ RetPair H Q q
theorem ok_told (F : FnP K "_law_told" "_law_told" s__law_told [] f fd) (p_top : Getter P w K mg base 1 C "top" (spTop C)) (p_bottom : Getter P w K mg base 1 C "bottom" (spBottom C)) : FnX P w K mg base 3 f fd ["_law_figure"] (spTold C) := by
  refine F.ok sc__law_told (fun vs H Q E h => ?_) (fun cdv A outer s H vs Q E hr h => ?_)
  · obtain ⟨a, q, rfl, _⟩ := h
    rfl
  · obtain ⟨a, q, rfl, ⟨dx, ha⟩, k⟩ := h
    refine ⟨_, (pss_one (ps_ret (pe_tup (pa_cons (pe_getter p_top (hr.mono (by decide)) (pv 0)) (pa_cons (pe_getter p_bottom (hr.mono (by decide)) (pv 0)) pa_nil))))), ?_⟩
    exact ⟨_, rfl, a, dx, _, rfl, ha, a, q, rfl, ⟨dx, ha⟩, _, rfl, a, dx, _, rfl, ha, a, q, rfl, ⟨dx, ha⟩, (by show 2 ≤ sizeLine; decide), fun p hp => k p _ hp (Ex.new hp) upd_same⟩
abbrev s__law_whole : Stmt := top 35
theorem sc__law_whole : FnScope ["_law_bag_here", "_law_way", "_law_near"] ["_law_bag_here"] (defScope s__law_whole) := ⟨rfl, rfl, rfl, by decide +kernel, rfl, by decide +kernel, by decide +kernel⟩
def spWholeL : Sp := fun vs H Q _ => ∃ m n, vs = [.ref m] ∧ BagAt H m n ∧ n + 5 ≤ 2 ^ 30 ∧ ∀ i H', i.natAbs < 2 ^ 100 → Kp m H H' → BagAt H' m (n + 5) → Q (.int i) H'
theorem ok_whole (F : FnP K "_law_whole" "_law_whole" s__law_whole [] f fd) (c__law_take : Callee P w K mg base 1 "_law_take" ["_law_bag_here", "_law_many"] spTake) : FnX P w K mg base 2 f fd ["_law_bag_here"] spWholeL := by
  refine F.ok sc__law_whole (fun vs H Q E h => ?_) (fun cdv A outer s H vs Q E hr h => ?_)
  · obtain ⟨m, n, rfl, _⟩ := h
    rfl
  · obtain ⟨m, n, rfl, b0, hn, k⟩ := h
    refine ⟨_, (pss_cons (ps_asg (pe_callee c__law_take (hr.mono (by decide)) (pa_cons (pv 0) (pa_cons pe_int pa_nil))) (pg_name (i := 1) sc__law_whole.nd rfl (.inl rfl)))
      (pss_cons (ps_asg (pe_lst (pa_cons (pe_op op_sub (pe_callee c__law_take (hr.mono (by decide)) (pa_cons (pv 0) (pa_cons pe_int pa_nil))) pe_int) (pa_cons (pe_op op_sub (pe_callee c__law_take (hr.mono (by decide)) (pa_cons (pv 0) (pa_cons pe_int pa_nil))) pe_int) (pa_cons (pe_callee c__law_take (hr.mono (by decide)) (pa_cons (pv 0) (pa_cons (pe_op op_pow pe_int pe_int) pa_nil))) (pa_cons (pe_op op_sub (pe_op op_pow pe_int pe_int) pe_int) (pa_cons pe_int (pa_cons pe_int pa_nil))))))) (pg_name (i := 2) sc__law_whole.nd rfl (.inl rfl)))
      (pss_one (ps_ret (pe_op op_mulW (pe_ix ix_list (pv 2) (pv 1) (fun _ _ => rfl)) (pe_ix ix_list (pe_lst (pa_cons pe_int (pa_cons (pe_un un_neg pe_int) pa_nil))) (pe_callee c__law_take (hr.mono (by decide)) (pa_cons (pv 0) (pa_cons pe_int pa_nil))) (fun _ _ => rfl))))))), ?_⟩
    refine ⟨_, rfl, m, 6, n, rfl, by decide, by decide, b0, by omega, fun way H1 w0 w1 k1 b1 => ?_⟩
    refine ⟨_, rfl, m, 13, n + 1, rfl, by decide, by decide, b1, by omega, fun r2 H2 r20 r21 k2 b2 => ⟨_, _, rfl, rfl, ?_⟩⟩
    refine ⟨_, rfl, m, 201, n + 2, rfl, by decide, by decide, b2, by omega, fun r3 H3 r30 r31 k3 b3 => ⟨_, _, rfl, rfl, ?_⟩⟩
    refine ⟨_, rfl, _, _, rfl, rfl, ⟨by decide, by decide, by decide⟩, m, _, n + 3, rfl, by decide, ?_, b3, by omega, fun r4 H4 r40 r41 k4 b4 => ?_⟩
    · exact Nat.lt_of_lt_of_le (show (10 ^ 30 : Nat) < 2 ^ 100 by decide) (Nat.pow_le_pow_right (by decide) (by decide))
    refine ⟨_, _, rfl, rfl, ⟨by decide, by decide, by decide⟩, _, _, rfl, rfl, (by show 6 ≤ sizeLine; decide), fun l hl => ?_⟩
    have r41' : r4 < 10 ^ 30 := r41
    have kl : Kp m H4 (upd H4 l (.lst [.int (r2 - 6), .int (r3 - 100), .int r4, .int (10 ^ 30 - 1), .int 0, .int 1])) := (Ex.new hl).kp
    have b5 : BagAt (upd H4 l (.lst [.int (r2 - 6), .int (r3 - 100), .int r4, .int (10 ^ 30 - 1), .int 0, .int 1])) m (n + 4) := b4.ex (Ex.new hl)
    have at6 : ∃ v : Int, v.natAbs < 2 ^ 100 ∧ atI ([.int (r2 - 6), .int (r3 - 100), .int r4, .int (10 ^ 30 - 1), .int 0, .int 1] : List V) way = some (.int v) := by
      have hw : way = 0 ∨ way = 1 ∨ way = 2 ∨ way = 3 ∨ way = 4 ∨ way = 5 := by omega
      rcases hw with rfl | rfl | rfl | rfl | rfl | rfl
      · exact ⟨r2 - 6, by omega, at_of (j := 0) rfl rfl⟩
      · exact ⟨r3 - 100, by omega, at_of (j := 1) rfl rfl⟩
      · exact ⟨r4, by omega, at_of (j := 2) rfl rfl⟩
      · exact ⟨10 ^ 30 - 1, by decide, at_of (j := 3) rfl rfl⟩
      · exact ⟨0, by decide, at_of (j := 4) rfl rfl⟩
      · exact ⟨1, by decide, at_of (j := 5) rfl rfl⟩
    obtain ⟨v, hv, ev⟩ := at6
    refine ⟨_, rfl, _, rfl, l, _, _, _, rfl, rfl, SqL.of upd_same, ev, ?_⟩
    refine ⟨_, rfl, (by show 2 ≤ sizeLine; decide), fun l2 hl2 => ?_⟩
    refine ⟨_, rfl, m, 2, n + 4, rfl, by decide, by decide, b5.ex (Ex.new hl2), by omega, fun r6 H6 r60 r61 k6 b6 => ?_⟩
    have hl2' : H6 l2 = some (.lst [.int 1, .int (-1)]) := k6 _ _ upd_same (b5.free hl2)
    have kk : Kp m H H6 := ((((k1.trans k2).trans k3).trans k4).trans kl).trans ((Ex.new hl2).kp.trans k6)
    have h6 : r6 = 0 ∨ r6 = 1 := by omega
    rcases h6 with rfl | rfl
    · refine ⟨l2, _, _, _, rfl, rfl, SqL.of hl2', at_of (j := 0) rfl rfl, _, _, rfl, rfl, wide_mul (b := 100) hv (by decide) (by decide) (by decide) (by decide), ?_⟩
      exact k _ _ (by rw [Int.mul_one]; exact hv) kk b6
    · refine ⟨l2, _, _, _, rfl, rfl, SqL.of hl2', at_of (j := 1) rfl rfl, _, _, rfl, rfl, wide_mul (b := 100) hv (by decide) (by decide) (by decide) (by decide), ?_⟩
      exact k _ _ (by rw [Int.mul_neg, Int.mul_one, Int.natAbs_neg]; exact hv) kk b6
abbrev s__law_pair : Stmt := top 36
theorem sc__law_pair : FnScope ["_law_bag_here", "_law_lo"] ["_law_bag_here"] (defScope s__law_pair) := ⟨rfl, rfl, rfl, by decide +kernel, rfl, by decide +kernel, by decide +kernel⟩
def spPairL : Sp := fun vs H Q _ => ∃ m n, vs = [.ref m] ∧ BagAt H m n ∧ n + 10 ≤ 2 ^ 30 ∧ ∀ p u d H', u.natAbs < 2 ^ 100 → d.natAbs < 2 ^ 100 → d ≠ 0 → H' p = some (.tup [.int u, .int d]) → Kp m H H' → BagAt H' m (n + 10) → Q (.ref p) H'
theorem ok_pair (F : FnP K "_law_pair" "_law_pair" s__law_pair [] f fd) (c__law_whole : Callee P w K mg base 2 "_law_whole" ["_law_bag_here"] spWholeL) : FnX P w K mg base 3 f fd ["_law_bag_here"] spPairL := by
  refine F.ok sc__law_pair (fun vs H Q E h => ?_) (fun cdv A outer s H vs Q E hr h => ?_)
  · obtain ⟨m, n, rfl, _⟩ := h
    rfl
  · obtain ⟨m, n, rfl, b0, hn, k⟩ := h
    refine ⟨_, (pss_cons (ps_asg (pe_callee c__law_whole (hr.mono (by decide)) (pa_cons (pv 0) pa_nil)) (pg_name (i := 1) sc__law_pair.nd rfl (.inl rfl)))
      (pss_one (ps_ret (pe_tup (pa_cons (pe_callee c__law_whole (hr.mono (by decide)) (pa_cons (pv 0) pa_nil)) (pa_cons (pe_ifExp (pt_cmpR op_ne (pv 1) pe_int (nomark _)) (pv 1) pe_int) pa_nil)))))), ?_⟩
    refine ⟨_, rfl, m, n, rfl, b0, by omega, fun d H1 hd k1 b1 => ?_⟩
    refine ⟨_, rfl, m, n + 5, rfl, b1, by omega, fun u H2 hu k2 b2 => ?_⟩
    refine ⟨_, rfl, rfl, _, rfl, ?_⟩
    by_cases hz : d = 0
    · rw [decide_eq_true (congrArg V.int hz)]
      exact iteF ⟨(by show 2 ≤ sizeLine; decide), fun p hp => k p u 7 _ hu (by decide) (by decide) upd_same ((k1.trans k2).trans (Ex.new hp).kp) (b2.ex (Ex.new hp))⟩
    · rw [decide_eq_false (fun z => hz (V.int.inj z))]
      exact iteT ⟨_, rfl, (by show 2 ≤ sizeLine; decide), fun p hp => k p u d _ hu hd hz upd_same ((k1.trans k2).trans (Ex.new hp).kp) (b2.ex (Ex.new hp))⟩
abbrev s__law_made : Stmt := top 37
theorem sc__law_made : FnScope ["_law_bag_here", "_law_x"] ["_law_bag_here", "_law_x"] (defScope s__law_made) := ⟨rfl, rfl, rfl, by decide +kernel, rfl, by decide +kernel, by decide +kernel⟩
def spMadeL (C : Addr) : Sp := fun vs H Q _ => ∃ m p n q, vs = [.ref m, .ref p] ∧ BagAt H m n ∧ n + 1 ≤ 2 ^ 30 ∧ RPair H p q ∧ Sz 4000 q ∧ ∀ v H', NumAt C H' v q → Kp m H H' → BagAt H' m (n + 1) → Q v H'
theorem rat_self (q : Rat) : Rat.divInt q.num q.den = q := Rat.num_divInt_den q
theorem ok_made (F : FnP K "_law_made" "_law_made" s__law_made [] f fd) (c__law_take : Callee P w K mg base 1 "_law_take" ["_law_bag_here", "_law_many"] spTake) (k_Ratio2 : Maker P w K mg base 2 "Ratio" C ["self", "top", "bottom"] [] (spRInit C CZ)) :
    FnX P w K mg base 4 f fd ["_law_bag_here", "_law_x"] (spMadeL C) := by
  refine F.ok sc__law_made (fun vs H Q E h => ?_) (fun cdv A outer s H vs Q E hr h => ?_)
  · obtain ⟨m, p, n, q, rfl, _⟩ := h
    rfl
  · obtain ⟨m, p, n, q, rfl, b0, hn, hp, z, k⟩ := h
    refine ⟨_, (pss_one (ps_ret (pe_ifExp (PW.pt (pw_and (pt_cmpR op_eq (pe_ix ix_tup (pv 1) pe_int (fun _ _ => rfl)) pe_int (nomark _)) (pw_and1 (pt_cmpR op_eq (pe_callee c__law_take (hr.mono (by decide)) (pa_cons (pv 0) (pa_cons pe_int pa_nil))) pe_int (nomark _))))) (pe_ix ix_tup (pv 1) pe_int (fun _ _ => rfl)) (pe_maker k_Ratio2 (hr.mono (by decide)) passL (pa_cons (pe_ix ix_tup (pv 1) pe_int (fun _ _ => rfl)) (pa_cons (pe_ix ix_tup (pv 1) pe_int (fun _ _ => rfl)) pa_nil)))))), ?_⟩
    have make : ∀ H1, Kp m H H1 → BagAt H1 m (n + 1) → RPair H1 p q → tMake C (spRInit C CZ) [] E0 (tCons (tOp (rIxT K) (tVar 1) (tC (.int 0))) (tCons (tOp (rIxT K) (tVar 1) (tC (.int 1))) tNil)) [some (.ref m), some (.ref p)] H1 Q := fun H1 k1 b1 hp1 => by
      refine ⟨_, rfl, p, _, _, _, rfl, rfl, (hp1).sq, ix0, _, rfl, p, _, _, _, rfl, rfl, (hp1).sq, ix1, fun a dx ha hdx ne => mk_rat (by have := den_pos q; omega) (Nat.lt_of_lt_of_le (sz_den z) (Nat.pow_le_pow_right (by decide) (by decide))) (fun a H2 _ e2 r => k _ H2 ?_ (k1.trans e2.kp) (b1.ex e2)) a dx ha hdx ne⟩
      rw [rat_self] at r
      exact r.num
    refine ⟨_, rfl, p, _, _, _, rfl, rfl, (hp).sq, ix1, rfl, _, rfl, ?_⟩
    by_cases hd : q.den = 1
    · rw [show decide (V.int (q.den : Int) = V.int 1) = true from decide_eq_true (by rw [hd]; rfl)]
      refine iteT ?_
      refine ⟨_, rfl, m, 2, n, rfl, by decide, by decide, b0, by omega, fun r H1 r0 r1 k1 b1 => ⟨rfl, _, rfl, ?_⟩⟩
      have hp1 := hp.kp b0 k1
      refine ite2 (fun e => ?_) (fun e => ?_)
      · refine ⟨_, rfl, p, _, _, _, rfl, rfl, (hp1).sq, ix0, k _ _ (.inl ⟨q.num, rfl, ?_⟩) k1 b1⟩
        exact Rat.ext (by rw [Rat.num_intCast]) (by rw [Rat.den_intCast]; exact hd)
      · exact make H1 k1 b1 hp1
    · rw [show decide (V.int (q.den : Int) = V.int 1) = false from decide_eq_false (fun e => hd (by have := V.int.inj e; omega))]
      exact iteF (make H Kp.rfl (b0.mono (by omega)) hp)
/-! ### uses -/
theorem pairD {H : Hp} {p : Addr} {q : Rat} (r : RPair H p q) : Dp K H (.ref p) (.tuple [.int q.num, .int q.den]) := .tup (SqT.of r) (.cons (.int _) (.cons (.int _) .nil))
theorem pairEqv (q r : Rat) : PyData.eqv (.tuple [.int q.num, .int q.den]) (.tuple [.int r.num, .int r.den]) = decide (q = r) := by
  have e : PyData.eqv (.tuple [.int q.num, .int q.den]) (.tuple [.int r.num, .int r.den]) = (q.num == r.num && ((q.den : Int) == (r.den : Int))) := by simp [PyData.eqv, PyData.eqvAll]
  rw [e]
  by_cases h : q = r
  · subst h
    simp
  · rw [decide_eq_false h, Bool.and_eq_false_iff]
    by_cases h1 : q.num = r.num
    · exact .inr (beq_eq_false_iff_ne.mpr fun z => h (Rat.ext h1 (by omega)))
    · exact .inl (beq_eq_false_iff_ne.mpr h1)
theorem ne_pair {H : Hp} {p p2 : Addr} {q r : Rat} {Q : VK} (h : RPair H p q) (g : RPair H p2 r) (k : Q (.bl (!decide (q = r))) H) : rNeD K (.ref p) (.ref p2) H Q := ⟨_, _, pairD h, pairD g, rfl, rfl, by rw [pairEqv]; exact k⟩
theorem eq_pair {H : Hp} {p p2 : Addr} {q r : Rat} {Q : VK} (h : RPair H p q) (g : RPair H p2 r) (k : Q (.bl (decide (q = r))) H) : rEqD K (.ref p) (.ref p2) H Q := ⟨_, _, pairD h, pairD g, rfl, rfl, by rw [pairEqv]; exact k⟩
theorem use_sign {g : Rat → Rat → Rat} {H : Hp} {a : Addr} {y : V} {q r : Rat} {Q : VK} (O : RatO K C) (ra : RatAt C H a q) (hn : NumAt C H y r) (zq : Sz 4000 q) (zr : Sz 4000 r) (k : RetRat C H Q (g q r)) : rSign C (spBin C g) (.ref a) y H Q :=
  ⟨RatAt.is ra, NumAt.right2 O.si hn, a, y, q, r, rfl, ra, hn, zq, zr, k⟩
theorem use_neg {H : Hp} {a : Addr} {q : Rat} {Q : VK} (ra : RatAt C H a q) (z : Sz 9000 q) (k : RetRat C H Q (-q)) : rNeg C (spNeg C) (.ref a) H Q := ⟨RatAt.is ra, a, q, rfl, ra, z, k⟩
theorem use_eq {H : Hp} {a : Addr} {y : V} {q r : Rat} {Q : VK} (O : RatO K C) (ra : RatAt C H a q) (hn : NumAt C H y r) (k : Q (.bl (decide (q = r))) H) : rOwnEq K C (spEqR K C) (.ref a) y H Q := ⟨RatAt.is ra, NumAt.right O.si hn, a, y, q, rfl, ra, .inl ⟨r, hn, k⟩⟩
theorem use_ne {H : Hp} {a : Addr} {y : V} {q r : Rat} {Q : VK} (O : RatO K C) (ra : RatAt C H a q) (hn : NumAt C H y r) (k : Q (.bl (!decide (q = r))) H) : rOwnNe K C (spEqR K C) (.ref a) y H Q := ⟨RatAt.is ra, NumAt.right O.si hn, a, y, q, rfl, ra, .inl ⟨r, hn, _, rfl, k⟩⟩
theorem use_eqO {H : Hp} {a : Addr} {y : V} {q : Rat} {Q : VK} (O : RatO K C) (ra : RatAt C H a q) (o : Odd K C H y) (k : Q (.bl false) H) : rOwnEq K C (spEqR K C) (.ref a) y H Q := ⟨RatAt.is ra, o.right O, a, y, q, rfl, ra, .inr ⟨o.tyn O, k⟩⟩
theorem use_neO {H : Hp} {a : Addr} {y : V} {q : Rat} {Q : VK} (O : RatO K C) (ra : RatAt C H a q) (o : Odd K C H y) (k : Q (.bl true) H) : rOwnNe K C (spEqR K C) (.ref a) y H Q := ⟨RatAt.is ra, o.right O, a, y, q, rfl, ra, .inr ⟨o.tyn O, _, rfl, k⟩⟩
theorem TyX_ex {K : Fg} {H H' : Hp} {x : V} {t : Value} (h : TyX K H x t) (e : Ex H H') : TyX K H' x t := by
  have at_ : ∀ {a : Addr} {u : HO}, H a = some u → H' a = some u := fun h => e _ _ h
  cases h with
  | base b =>
    refine .base ?_
    cases b with
    | non => exact .non
    | bl y => exact .bl y
    | int i => exact .int i
    | str y => exact .str y
    | flt y => exact .flt y
    | lst e => exact .lst (at_ e)
    | frz e => exact .frz (at_ e)
    | tup e => exact .tup (at_ e)
    | dK e => exact .dK (at_ e)
    | dT e => exact .dT (at_ e)
    | ins e c1 c2 c3 c4 c5 => exact .ins (at_ e) c1 c2 c3 c4 c5
  | byt y => exact .byt y
  | set e => exact .set (at_ e)
  | kList e c => exact .kList e c
  | kTuple e c => exact .kTuple e c
  | kDict e c => exact .kDict e c
  | fTuple e => exact .fTuple (at_ e)
  | fDict e => exact .fDict (at_ e)
theorem Odd.grow {H H' : Hp} {x : V} (h : Odd K C H x) (e : Ex H H') : Odd K C H' x := ⟨h.ex.elim fun n ⟨hn, ty⟩ => ⟨n, hn, TyX_ex ty e⟩⟩
theorem div_self_num (q : Rat) : decide (q = ((q.num : Int) : Rat)) = decide (V.int (q.den : Int) = V.int 1) := by
  rw [decide_eq_decide]
  constructor
  · intro h
    have h2 : q.den = 1 := by rw [h, Rat.den_intCast]
    rw [h2]
    rfl
  · intro h
    have h2 := V.int.inj h
    exact Rat.ext (by rw [Rat.num_intCast]) (by rw [Rat.den_intCast]; omega)
/-! ### two quotients -/
abbrev s__law_two_right : Stmt := top 38
theorem sc__law_two_right : FnScope ["_law_bag_here", "_law_x", "_law_y", "_law_one", "_law_other", "_law_odd"] ["_law_bag_here", "_law_x", "_law_y"] (defScope s__law_two_right) := ⟨rfl, rfl, rfl, by decide +kernel, rfl, by decide +kernel, by decide +kernel⟩
def spTwo (C : Addr) : Sp := fun vs H Q _ => ∃ m px py n q r, vs = [.ref m, .ref px, .ref py] ∧ BagAt H m n ∧ n + 2 ≤ 2 ^ 30 ∧ RPair H px q ∧ RPair H py r ∧ Sz 100 q ∧ Sz 100 r ∧ ∀ H', Kp m H H' → BagAt H' m (n + 2) → Q (.bl true) H'
structure TwoH (P : Program) (w : World) (K : Fg) (mg : Str → Option Value) (base : Heap) (C CZ : Addr) : Prop where
  take : Callee P w K mg base 1 "_law_take" ["_law_bag_here", "_law_many"] spTake
  made : Callee P w K mg base 4 "_law_made" ["_law_bag_here", "_law_x"] (spMadeL C)
  told : Callee P w K mg base 3 "_law_told" ["_law_figure"] (spTold C)
  plus : Callee P w K mg base 2 "_law_plus" ["_law_x", "_law_y"] (spArith fun q s => q + s)
  minus : Callee P w K mg base 2 "_law_minus" ["_law_x", "_law_y"] (spArith fun q s => q - s)
  times : Callee P w K mg base 2 "_law_times" ["_law_x", "_law_y"] (spArith fun q s => q * s)
  over : Callee P w K mg base 2 "_law_over" ["_law_x", "_law_y"] spLawOver
  less : Callee P w K mg base 1 "_law_less" ["_law_x", "_law_y"] spLess
  k2 : Maker P w K mg base 2 "Ratio" C ["self", "top", "bottom"] [] (spRInit C CZ)
  k1 : Maker P w K mg base 2 "Ratio" C ["self", "top", "bottom"] [.int 1] (spRInit C CZ)
  oAdd : SignOk P w K mg base 5 C Operator.Add.info.2 (spBin C fun q r => q + r)
  oSub : SignOk P w K mg base 5 C Operator.Sub.info.2 (spBin C fun q r => q - r)
  oMul : SignOk P w K mg base 5 C Operator.Mult.info.2 (spBin C fun q r => q * r)
  oNeg : NegOk P w K mg base 5 C (spNeg C)
  eq : EqOk P w K mg base 3 C (spEqR K C)
  below : Mthd P w K mg base 5 C "below" ["self", "number"] (spBelow C)
  mover : Mthd P w K mg base 5 C "over" ["self", "number"] (spOver C CZ)
  z : ExcC K mg "ByZero" CZ
  zx : PySem.W.exmOne K (.ref CZ) (.ref CZ) = some true
theorem ok_two (F : FnP K "_law_two_right" "_law_two_right" s__law_two_right [] f fd) (T : RatC K C) (O : RatO K C) (h : TwoH P w K mg base C CZ) (m_repr : mg "repr" = none) (m_str : mg "str" = none) (m_int : mg "int" = none) :
    FnX P w K mg base 7 f fd ["_law_bag_here", "_law_x", "_law_y"] (spTwo C) := by
  refine F.ok sc__law_two_right (fun vs H Q E h => ?_) (fun cdv A outer s H vs Q E hr hh => ?_)
  · obtain ⟨m, px, py, n, q, r, rfl, _⟩ := h
    rfl
  · obtain ⟨m, px, py, n, q, r, rfl, b0, hn, hx, hy, zq, zr, k⟩ := hh
    have c__law_take := h.take
    have c__law_made := h.made
    have c__law_told := h.told
    have c__law_plus := h.plus
    have c__law_minus := h.minus
    have c__law_times := h.times
    have c__law_over := h.over
    have c__law_less := h.less
    have k_Ratio2 := h.k2
    have k_Ratio1 := h.k1
    have o_Add := h.oAdd
    have o_Sub := h.oSub
    have o_Mul := h.oMul
    have o_Neg := h.oNeg
    have e_eq := h.eq
    have z_ByZero := h.z
    obtain ⟨f_below, fd_below, cl_below, me_below, b_below, F_below⟩ := h.below.ex
    obtain ⟨f_over, fd_over, cl_over, me_over, b_over, F_over⟩ := h.mover.ex
    refine ⟨_, (pss_cons (ps_par (i := 3) (j := 4) (by rfl) sc__law_two_right.nd rfl rfl (by decide) rfl rfl (pa_cons (pe_maker k_Ratio2 (hr.mono (by decide)) passL (pa_cons (pe_ix ix_tup (pv 1) pe_int (fun _ _ => rfl)) (pa_cons (pe_ix ix_tup (pv 1) pe_int (fun _ _ => rfl)) pa_nil))) (pa_cons (pe_callee c__law_made (hr.mono (by decide)) (pa_cons (pv 0) (pa_cons (pv 2) pa_nil))) pa_nil)) (by rfl))
      (pss_cons (ps_if (PW.pt (pw_or (pt_cmpR (op_neD hr.units) (pe_callee c__law_told (hr.mono (by decide)) (pa_cons (pe_op (op_ownAdd o_Add (hr.mono (by decide))) (pv 3) (pv 4)) pa_nil)) (pe_callee c__law_plus (hr.mono (by decide)) (pa_cons (pv 1) (pa_cons (pv 2) pa_nil))) (nomark _)) (pw_or1 (pt_cmpR (op_neD hr.units) (pe_callee c__law_told (hr.mono (by decide)) (pa_cons (pe_op (op_ownSub o_Sub (hr.mono (by decide))) (pv 3) (pv 4)) pa_nil)) (pe_callee c__law_minus (hr.mono (by decide)) (pa_cons (pv 1) (pa_cons (pv 2) pa_nil))) (nomark _))))) (pss_one (ps_ret pe_bl)) pss_nil)
      (pss_cons (ps_if (PW.pt (pw_or (pt_cmpR (op_neD hr.units) (pe_callee c__law_told (hr.mono (by decide)) (pa_cons (pe_op (op_ownMul o_Mul (hr.mono (by decide))) (pv 3) (pv 4)) pa_nil)) (pe_callee c__law_times (hr.mono (by decide)) (pa_cons (pv 1) (pa_cons (pv 2) pa_nil))) (nomark _)) (pw_or1 (pt_cmpR (op_neD hr.units) (pe_callee c__law_told (hr.mono (by decide)) (pa_cons (pe_un (un_ownNeg o_Neg (hr.mono (by decide))) (pv 3)) pa_nil)) (pe_callee c__law_minus (hr.mono (by decide)) (pa_cons (pe_tup (pa_cons pe_int (pa_cons pe_int pa_nil))) (pa_cons (pv 1) pa_nil))) (nomark _))))) (pss_one (ps_ret pe_bl)) pss_nil)
      (pss_cons (ps_if (PW.pt (pw_or (pt_cmpR op_ne (pe_callB call_repr_bl (by rfl) m_repr (by decide +kernel) (pa_cons (pe_meth (pv 3) cl_below me_below F_below (hr.mono (by decide)) b_below .nil passL (pa_cons (pv 4) pa_nil)) pa_nil)) (pe_callB call_repr_bl (by rfl) m_repr (by decide +kernel) (pa_cons (pe_callee c__law_less (hr.mono (by decide)) (pa_cons (pv 1) (pa_cons (pv 2) pa_nil))) pa_nil)) (nomark _)) (pw_or (pt_cmpR op_ne (pe_cmpR (op_ownEq e_eq (hr.mono (by decide))) (pv 3) (pv 4) (nomark _)) (pe_cmpR (op_eqD hr.units) (pv 1) (pv 2) (nomark _)) (nomark _)) (pw_or1 (pt_cmpR op_ne (pe_cmpR (op_ownNe e_eq (hr.mono (by decide))) (pv 3) (pv 4) (nomark _)) (pe_cmpR (op_neD hr.units) (pv 1) (pv 2) (nomark _)) (nomark _)))))) (pss_one (ps_ret pe_bl)) pss_nil)
      (pss_cons (ps_asg (pe_ix ix_list (pe_lst (pa_cons pe_bl (pa_cons pe_bl (pa_cons pe_non (pa_cons (pe_callTy call_str_int (by rfl) m_str (by decide +kernel) (pa_cons (pe_ix ix_tup (pv 1) pe_int (fun _ _ => rfl)) pa_nil)) (pa_cons (pe_lst (pa_cons (pv 3) pa_nil)) (pa_cons (pe_tup (pa_cons (pv 3) pa_nil)) pa_nil))))))) (pe_callee c__law_take (hr.mono (by decide)) (pa_cons (pv 0) (pa_cons pe_int pa_nil))) (fun _ _ => rfl)) (pg_name (i := 5) sc__law_two_right.nd rfl (.inl rfl)))
      (pss_cons (ps_if (PW.pt (pw_or (pt_cmpR op_ne (pe_cmpR (op_ownEq e_eq (hr.mono (by decide))) (pv 3) (pe_ix ix_tup (pv 1) pe_int (fun _ _ => rfl)) (nomark _)) (pe_cmpR op_eq (pe_ix ix_tup (pv 1) pe_int (fun _ _ => rfl)) pe_int (nomark _)) (nomark _)) (pw_or (pt_cmpR (op_ownEq e_eq (hr.mono (by decide))) (pv 3) (pv 5) (nomark _)) (pw_or (pt_not (pt_cmpR (op_ownNe e_eq (hr.mono (by decide))) (pv 3) (pv 5) (nomark _))) (pw_or1 (pt_cmpR (op_ownEq e_eq (hr.mono (by decide))) (pe_maker k_Ratio1 (hr.mono (by decide)) passL (pa_cons (pe_callTy call_int1 (by rfl) m_int (by decide +kernel) (pa_cons (pe_cmpR op_isAny (pv 5) pe_bl (nomark _)) pa_nil)) pa_nil)) (pv 5) (nomark _))))))) (pss_one (ps_ret pe_bl)) pss_nil)
      (pss_cons (ps_if (pt_cmpR op_ne (pe_ix ix_tup (pv 2) pe_int (fun _ _ => rfl)) pe_int (nomark _)) (pss_one (ps_ret (pe_cmpR (op_eqD hr.units) (pe_callee c__law_told (hr.mono (by decide)) (pa_cons (pe_meth (pv 3) cl_over me_over F_over (hr.mono (by decide)) b_over .nil passL (pa_cons (pv 4) pa_nil)) pa_nil)) (pe_callee c__law_over (hr.mono (by decide)) (pa_cons (pv 1) (pa_cons (pv 2) pa_nil))) (nomark _)))) pss_nil)
      (pss_cons (ps_try_only rfl rfl ⟨rfl, by decide, .inl z_ByZero.g⟩ (takes_of rfl rfl rfl rfl) (fun W pn xe tk _ => (pss_one (ps_expr (pe_meth (pv 3) cl_over me_over F_over (hr.mono (by decide)) b_over .nil (passes_call (E := fun cl dd hh => ∀ σσ, W cl dd σσ hh) tk fun _ _ _ _ h => h _) (pa_cons (pv 4) pa_nil))))) (fun a oe cls d pn _ _ => (pss_one (ps_ret pe_bl))))
      (pss_one (ps_ret pe_bl)))))))))), ?_⟩
    have zq4 : Sz 4000 q := zq.mono (by decide)
    have zr4 : Sz 4000 r := zr.mono (by decide)
    have zq9 : Sz 9000 q := zq.mono (by decide)
    have zr9 : Sz 9000 r := zr.mono (by decide)
    -- one, other
    refine ⟨_, rfl, px, _, _, _, rfl, rfl, hx.sq, ix0, _, rfl, px, _, _, _, rfl, rfl, hx.sq, ix1, fun a da ha hda _ => ⟨a, da, _, _, rfl, upd_same, .inl ⟨by have := den_pos q; omega, sz_den zq9, rfl, ?_⟩⟩⟩
    rw [upd_upd, rat_self]
    obtain ⟨e1, ra⟩ := rat_new (C := C) ha hda q
    generalize upd (upd H da (.own a)) a (.ins C da (ratF q)) = H1 at e1 ra ⊢
    refine ⟨_, rfl, _, rfl, m, py, n, r, rfl, b0.ex e1, by omega, hy.ex e1, zr4, fun o H2 ho k2 b2 => ⟨_, _, rfl, ?_⟩⟩
    have ra := ra.kp (b0.ex e1) k2
    have hx := (hx.ex e1).kp (b0.ex e1) k2
    have hy := (hy.ex e1).kp (b0.ex e1) k2
    have kk := e1.kp.trans k2
    clear k2 e1
    -- sums and differences
    refine ⟨_, rfl, _, rfl, use_sign O ra ho zq4 zr4 fun t3 H3 _ e3 r3 => ⟨t3, _, rfl, r3, fun p4 H4 _ e4 r4 => ?_⟩⟩
    refine ⟨_, rfl, _, rfl, px, py, q, r, rfl, hx.ex (e3.trans e4), hy.ex (e3.trans e4), zq4, zr4, fun p5 H5 _ e5 r5 => ne_pair (r4.ex e5) r5 ⟨_, rfl, iteNS rfl ?_⟩⟩
    have ec := (e3.trans e4).trans e5
    clear r3 r4 r5 e3 e4 e5
    have ra := ra.ex ec
    have ho := ho.ex ec
    have hx := hx.ex ec
    have hy := hy.ex ec
    have b2 := b2.ex ec
    have kk := kk.trans ec.kp
    clear ec
    refine ⟨_, rfl, _, rfl, use_sign O ra ho zq4 zr4 fun t3 H3 _ e3 r3 => ⟨t3, _, rfl, r3, fun p4 H4 _ e4 r4 => ?_⟩⟩
    refine ⟨_, rfl, _, rfl, px, py, q, r, rfl, hx.ex (e3.trans e4), hy.ex (e3.trans e4), zq4, zr4, fun p5 H5 _ e5 r5 => ne_pair (r4.ex e5) r5 ⟨_, rfl, iteNS rfl ?_⟩⟩
    have ec := (e3.trans e4).trans e5
    clear r3 r4 r5 e3 e4 e5
    have ra := ra.ex ec
    have ho := ho.ex ec
    have hx := hx.ex ec
    have hy := hy.ex ec
    have b2 := b2.ex ec
    have kk := kk.trans ec.kp
    clear ec
    -- products, the opposite
    refine ⟨_, rfl, _, rfl, use_sign O ra ho zq4 zr4 fun t3 H3 _ e3 r3 => ⟨t3, _, rfl, r3, fun p4 H4 _ e4 r4 => ?_⟩⟩
    refine ⟨_, rfl, _, rfl, px, py, q, r, rfl, hx.ex (e3.trans e4), hy.ex (e3.trans e4), zq4, zr4, fun p5 H5 _ e5 r5 => ne_pair (r4.ex e5) r5 ⟨_, rfl, iteNS rfl ?_⟩⟩
    have ec := (e3.trans e4).trans e5
    clear r3 r4 r5 e3 e4 e5
    have ra := ra.ex ec
    have ho := ho.ex ec
    have hx := hx.ex ec
    have hy := hy.ex ec
    have b2 := b2.ex ec
    have kk := kk.trans ec.kp
    clear ec
    refine ⟨_, rfl, use_neg ra zq9 fun t3 H3 _ e3 r3 => ⟨t3, _, rfl, r3, fun p4 H4 _ e4 r4 => ?_⟩⟩
    refine ⟨(by show 2 ≤ sizeLine; decide), fun p0 hp0 => ?_⟩
    have r0 : RPair (upd H4 p0 (.tup [.int 0, .int 1])) p0 0 := upd_same
    refine ⟨_, rfl, p0, px, 0, q, rfl, r0, (hx.ex (e3.trans e4)).ex (Ex.new hp0), ⟨by decide, by decide⟩, zq4, fun p5 H5 _ e5 r5 => ne_pair ((r4.ex (Ex.new hp0)).ex e5) r5 ⟨_, rfl, iteNS (by show -q = 0 - q; rw [Rat.sub_eq_add_neg, Rat.zero_add]) ?_⟩⟩
    have ec := ((e3.trans e4).trans (Ex.new hp0)).trans e5
    clear r3 r4 r5 e3 e4 e5 r0 hp0
    have ra := ra.ex ec
    have ho := ho.ex ec
    have hx := hx.ex ec
    have hy := hy.ex ec
    have b2 := b2.ex ec
    have kk := kk.trans ec.kp
    clear ec
    -- below, equal, not equal
    refine ⟨_, rfl, a, ra.choose, _, rfl, ra.choose_spec, rfl, _, rfl, a, _, q, r, rfl, ra, ho, zq9, zr9, fun H3 e3 => ⟨_, rfl, _, rfl, _, rfl, px, py, q, r, rfl, hx.ex e3, hy.ex e3, zq4, zr4, _, rfl, rfl, _, rfl, iteNS rfl ?_⟩⟩
    have ra := ra.ex e3
    have ho := ho.ex e3
    have hx := hx.ex e3
    have hy := hy.ex e3
    have b2 := b2.ex e3
    have kk := kk.trans e3.kp
    refine ⟨_, rfl, _, rfl, use_eq O ra ho ⟨_, rfl, _, rfl, eq_pair hx hy ⟨rfl, _, rfl, iteNS rfl ?_⟩⟩⟩
    refine ⟨_, rfl, _, rfl, use_ne O ra ho ⟨_, rfl, _, rfl, ne_pair hx hy ⟨rfl, _, rfl, iteNS rfl ?_⟩⟩⟩
    -- a thing that is no number
    have lg : q.num.natAbs.log2 < 1920 := by
      by_cases h0 : q.num.natAbs = 0
      · rw [h0]
        decide
      · exact (Nat.log2_lt h0).mpr (Nat.lt_of_lt_of_le zq.1 (Nat.pow_le_pow_right (by decide) (by decide)))
    refine ⟨_, rfl, px, _, _, _, rfl, rfl, hx.sq, ix0, _, rfl, lg, _, rfl, (by show 1 ≤ sizeLine; decide), fun l1 hl1 => ⟨_, rfl, (by show 1 ≤ sizeLine; decide), fun t1 ht1 => ⟨(by show 6 ≤ sizeLine; decide), fun l hl => ?_⟩⟩⟩
    have n1 : l1 ≠ m := b2.free hl1
    have nl : l ≠ m := (b2.ex ((Ex.new hl1).trans (Ex.new ht1))).free hl
    have el : Ex H3 (upd (upd (upd H3 l1 (.lst [.ref a])) t1 (.tup [.ref a])) l (.lst [.bl true, .bl false, .non, .str (toString q.num), .ref l1, .ref t1])) := ((Ex.new hl1).trans (Ex.new ht1)).trans (Ex.new hl)
    have al1 : upd (upd (upd H3 l1 (.lst [.ref a])) t1 (.tup [.ref a])) l (.lst [.bl true, .bl false, .non, .str (toString q.num), .ref l1, .ref t1]) l1 = some (.lst [.ref a]) := (Ex.new hl) _ _ ((Ex.new ht1) _ _ upd_same)
    have at1 : upd (upd (upd H3 l1 (.lst [.ref a])) t1 (.tup [.ref a])) l (.lst [.bl true, .bl false, .non, .str (toString q.num), .ref l1, .ref t1]) t1 = some (.tup [.ref a]) := (Ex.new hl) _ _ upd_same
    have al : upd (upd (upd H3 l1 (.lst [.ref a])) t1 (.tup [.ref a])) l (.lst [.bl true, .bl false, .non, .str (toString q.num), .ref l1, .ref t1]) l = some (.lst [.bl true, .bl false, .non, .str (toString q.num), .ref l1, .ref t1]) := upd_same
    generalize upd (upd (upd H3 l1 (.lst [.ref a])) t1 (.tup [.ref a])) l (.lst [.bl true, .bl false, .non, .str (toString q.num), .ref l1, .ref t1]) = H4 at el al1 at1 al ⊢
    have b4 := b2.ex el
    refine ⟨_, rfl, m, 6, n + 1, rfl, by decide, by decide, b4, by omega, fun i H5 i0 i1 k5 b5 => ?_⟩
    have ra := (ra.ex el).kp b4 k5
    have ho := (ho.ex el).kp b4 k5
    have hx := (hx.ex el).kp b4 k5
    have hy := (hy.ex el).kp b4 k5
    have kk := (kk.trans el.kp).trans k5
    have al1 := k5 _ _ al1 n1
    have at1 := k5 _ _ at1 (b4.ne at1 fun x z => by cases z)
    have al := k5 _ _ al nl
    clear el hl1 ht1 hl k5
    have od : ∃ v, Odd K C H5 v ∧ atI ([.bl true, .bl false, .non, .str (toString q.num), .ref l1, .ref t1] : List V) i = some v := by
      have hw : i = 0 ∨ i = 1 ∨ i = 2 ∨ i = 3 ∨ i = 4 ∨ i = 5 := by omega
      rcases hw with rfl | rfl | rfl | rfl | rfl | rfl
      · exact ⟨_, ⟨"bool", by simp, .base (.bl _)⟩, at_of (j := 0) rfl rfl⟩
      · exact ⟨_, ⟨"bool", by simp, .base (.bl _)⟩, at_of (j := 1) rfl rfl⟩
      · exact ⟨_, ⟨"NoneType", by simp, .base .non⟩, at_of (j := 2) rfl rfl⟩
      · exact ⟨_, ⟨"str", by simp, .base (.str _)⟩, at_of (j := 3) rfl rfl⟩
      · exact ⟨_, ⟨"list", by simp, .base (.lst al1)⟩, at_of (j := 4) rfl rfl⟩
      · exact ⟨_, ⟨"tuple", by simp, .base (.tup at1)⟩, at_of (j := 5) rfl rfl⟩
    obtain ⟨v, ov, ev⟩ := od
    refine ⟨l, _, _, _, rfl, rfl, SqL.of al, ev, ?_⟩
    refine ⟨_, rfl, _, rfl, px, _, _, _, rfl, rfl, hx.sq, ix0, use_eq O ra (.inl ⟨q.num, rfl, rfl⟩) ⟨_, rfl, px, _, _, _, rfl, rfl, hx.sq, ix1, rfl, rfl, _, rfl, iteNS (congrArg V.bl (div_self_num q)) ?_⟩⟩
    refine ⟨_, rfl, _, rfl, use_eqO O ra ov ⟨_, rfl, iteF ⟨_, rfl, _, rfl, use_neO O ra ov ⟨_, rfl, iteF ?_⟩⟩⟩⟩
    refine ⟨_, rfl, _, rfl, .inr ⟨_, rfl, fun a2 d2 ha2 hd2 _ => ⟨a2, d2, _, _, rfl, upd_same, .inl ⟨by decide, (by show (1 : Nat) < 2 ^ 9000; exact Nat.one_lt_two_pow (by decide)), rfl, ?_⟩⟩⟩⟩
    rw [upd_upd]
    obtain ⟨e6, ra2⟩ := rat_new (C := C) ha2 hd2 (Rat.divInt (if decide (v = V.bl true) = true then 1 else 0) 1)
    generalize upd (upd H5 d2 (.own a2)) a2 (.ins C d2 (ratF (Rat.divInt (if decide (v = V.bl true) = true then 1 else 0) 1))) = H6 at e6 ra2 ⊢
    refine ⟨_, rfl, use_eqO O ra2 (ov.grow e6) ⟨_, rfl, ?_⟩⟩
    refine iteF ?_
    have b7 := b5.ex e6
    have ra := ra.ex e6
    have ho := ho.ex e6
    have hx := hx.ex e6
    have hy := hy.ex e6
    have kk := kk.trans e6.kp
    clear ra2 e6
    refine ⟨_, rfl, py, _, _, _, rfl, rfl, hy.sq, ix0, rfl, _, rfl, ?_⟩
    by_cases hz : r = 0
    · subst hz
      exact iteF ⟨_, rfl, a, ra.choose, _, rfl, ra.choose_spec, rfl, _, rfl, a, _, q, 0, rfl, ra, ho, zq4, zr4, fun z => absurd rfl z, fun _ H' e' σσ => ⟨true, h.zx, fun _ a' _ => k _ (kk.trans e'.kp) (b7.ex e'), fun z => nomatch z⟩⟩
    · rw [decide_eq_false (fun e => hz (Rat.num_eq_zero.mp (V.int.inj e)))]
      refine iteT ⟨_, rfl, a, ra.choose, _, rfl, ra.choose_spec, rfl, _, rfl, a, _, q, r, rfl, ra, ho, zq4, zr4, fun _ t3 H3 _ e3 r3 => ⟨t3, _, rfl, r3, fun p4 H4 _ e4 r4 => ?_⟩, fun z => absurd z hz⟩
      refine ⟨_, rfl, _, rfl, px, py, q, r, rfl, hx.ex (e3.trans e4), hy.ex (e3.trans e4), zq4, zr4, hz, fun p5 H5 _ e5 r5 => eq_pair (r4.ex e5) r5 ?_⟩
      rw [decide_eq_true rfl]
      exact k _ (kk.trans ((e3.trans e4).trans e5).kp) (b7.ex ((e3.trans e4).trans e5))
/-! ### kinds -/
theorem num0 (q : Rat) : decide (0 ≤ q) = decide (0 ≤ q.num) := by
  rw [decide_eq_decide]
  exact Rat.num_nonneg.symm
theorem num01 (q : Rat) : decide (0 ≤ q ∧ q ≤ 1) = if decide (0 ≤ q.num) = true then decide (q.num ≤ (q.den : Int)) else false := by
  have h1 : q ≤ 1 ↔ q.num ≤ (q.den : Int) := by
    rw [Rat.le_iff]
    simp
  by_cases h : 0 ≤ q.num
  · rw [if_pos (decide_eq_true h), decide_eq_decide, h1]
    exact ⟨fun z => z.2, fun z => ⟨Rat.num_nonneg.mp h, z⟩⟩
  · rw [if_neg (by simpa using h)]
    exact decide_eq_false fun z => h (Rat.num_nonneg.mpr z.1)
abbrev s__law_kinds_right : Stmt := top 39
theorem sc__law_kinds_right : FnScope ["_law_bag_here", "_law_x", "_law_thing", "_law_odd"] ["_law_bag_here", "_law_x"] (defScope s__law_kinds_right) := ⟨rfl, rfl, rfl, by decide +kernel, rfl, by decide +kernel, by decide +kernel⟩
def spKinds : Sp := fun vs H Q _ => ∃ m px n q, vs = [.ref m, .ref px] ∧ BagAt H m n ∧ n + 2 ≤ 2 ^ 30 ∧ RPair H px q ∧ Sz 100 q ∧ ∀ H', Kp m H H' → BagAt H' m (n + 2) → Q (.bl true) H'
theorem ok_kinds (F : FnP K "_law_kinds_right" "_law_kinds_right" s__law_kinds_right [] f fd) (T : RatC K C) (O : RatO K C) (c__law_take : Callee P w K mg base 1 "_law_take" ["_law_bag_here", "_law_many"] spTake) (c__law_made : Callee P w K mg base 4 "_law_made" ["_law_bag_here", "_law_x"] (spMadeL C))
    (c__law_told : Callee P w K mg base 3 "_law_told" ["_law_figure"] (spTold C)) (c_is_number : Callee P w K mg base 2 "is_number" ["value"] (spNumber K C)) (c_as_ratio : Callee P w K mg base 4 "as_ratio" ["number"] (spAsRatio C)) (c_is_amount : Callee P w K mg base 6 "is_amount" ["value"] (spAmount K C))
    (c_is_share : Callee P w K mg base 7 "is_share" ["value"] (spShare K C)) (m_repr : mg "repr" = none) : FnX P w K mg base 9 f fd ["_law_bag_here", "_law_x"] spKinds := by
  refine F.ok sc__law_kinds_right (fun vs H Q E h => ?_) (fun cdv A outer s H vs Q E hr h => ?_)
  · obtain ⟨m, px, n, q, rfl, _⟩ := h
    rfl
  · obtain ⟨m, px, n, q, rfl, b0, hn, hx, zq, k⟩ := h
    refine ⟨_, (pss_cons (ps_asg (pe_callee c__law_made (hr.mono (by decide)) (pa_cons (pv 0) (pa_cons (pv 1) pa_nil))) (pg_name (i := 2) sc__law_kinds_right.nd rfl (.inl rfl)))
      (pss_cons (ps_if (PW.pt (pw_or (pt_cmpR op_notAny (pe_callee c_is_number (hr.mono (by decide)) (pa_cons (pv 2) pa_nil)) pe_bl (nomark _)) (pw_or1 (pt_cmpR op_ne (pe_callB call_repr_bl (by rfl) m_repr (by decide +kernel) (pa_cons (pe_callee c_is_amount (hr.mono (by decide)) (pa_cons (pv 2) pa_nil)) pa_nil)) (pe_callB call_repr_bl (by rfl) m_repr (by decide +kernel) (pa_cons (pe_cmpR op_ge (pe_ix ix_tup (pv 1) pe_int (fun _ _ => rfl)) pe_int (nomark _)) pa_nil)) (nomark _))))) (pss_one (ps_ret pe_bl)) pss_nil)
      (pss_cons (ps_if (PW.pt (pw_or (pt_cmpR op_ne (pe_callB call_repr_bl (by rfl) m_repr (by decide +kernel) (pa_cons (pe_callee c_is_share (hr.mono (by decide)) (pa_cons (pv 2) pa_nil)) pa_nil)) (pe_callB call_repr_bl (by rfl) m_repr (by decide +kernel) (pa_cons (pe_chain op_le op_le pe_int (pe_ix ix_tup (pv 1) pe_int (fun _ _ => rfl)) (pe_ix ix_tup (pv 1) pe_int (fun _ _ => rfl))) pa_nil)) (nomark _)) (pw_or1 (pt_cmpR (op_neD hr.units) (pe_callee c__law_told (hr.mono (by decide)) (pa_cons (pe_callee c_as_ratio (hr.mono (by decide)) (pa_cons (pv 2) pa_nil)) pa_nil)) (pv 1) (nomark _))))) (pss_one (ps_ret pe_bl)) pss_nil)
      (pss_cons (ps_asg (pe_ix ix_list (pe_lst (pa_cons pe_non (pa_cons pe_bl (pa_cons pe_bl (pa_cons pe_str (pa_cons (pe_lst (pa_cons (pv 2) pa_nil)) (pa_cons (pe_tup (pa_cons (pv 2) pa_nil)) (pa_cons pe_dnewK (pa_cons pe_str (pa_cons (pe_disp (pps_cons pe_str (pv 2) pps_nil) (by rfl) (by rfl) (fun z => by cases z) (by decide)) pa_nil)))))))))) (pe_callee c__law_take (hr.mono (by decide)) (pa_cons (pv 0) (pa_cons pe_int pa_nil))) (fun _ _ => rfl)) (pg_name (i := 3) sc__law_kinds_right.nd rfl (.inl rfl)))
      (pss_one (ps_ret (pe_cmpR (op_eqD hr.units) (pe_lst (pa_cons (pe_callee c_is_number (hr.mono (by decide)) (pa_cons (pv 3) pa_nil)) (pa_cons (pe_callee c_is_amount (hr.mono (by decide)) (pa_cons (pv 3) pa_nil)) (pa_cons (pe_callee c_is_share (hr.mono (by decide)) (pa_cons (pv 3) pa_nil)) pa_nil)))) (pe_lst (pa_cons pe_bl (pa_cons pe_bl (pa_cons pe_bl pa_nil)))) (nomark _)))))))), ?_⟩
    have zq4 : Sz 4000 q := zq.mono (by decide)
    have zq9 : Sz 9000 q := zq.mono (by decide)
    refine ⟨_, rfl, _, rfl, m, px, n, q, rfl, b0, by omega, hx, zq4, fun o H1 ho k1 b1 => ?_⟩
    have hx1 := hx.kp b0 k1
    obtain ⟨wh, rt, ty, wr⟩ := T.num ho
    refine ⟨_, rfl, o, wh, rt, rfl, ty, true, rfl, ?_⟩
    rw [wr]
    refine ⟨_, rfl, iteNS rfl ?_⟩
    clear ty wr
    refine ⟨_, rfl, o, rfl, .inl ⟨q, ho, zq9, fun H2 e2 => ⟨_, rfl, _, rfl, px, _, _, _, rfl, rfl, (hx1.ex e2).sq, ix0, _, _, rfl, rfl, _, rfl, rfl, _, rfl, iteNS (congrArg (fun b => V.str (tfS b)) (num0 q)) ?_⟩⟩⟩
    refine ⟨_, rfl, o, rfl, .inl ⟨q, ho.ex e2, zq9, fun H3 e3 => ⟨_, rfl, _, rfl, px, _, _, _, rfl, rfl, ((hx1.ex e2).ex e3).sq, ix0, _, _, rfl, rfl, _, rfl, ?_⟩⟩⟩
    have h01 := num01 q
    by_cases h0 : 0 ≤ q.num
    case' pos =>
      rw [if_pos (decide_eq_true h0)] at h01
      rw [decide_eq_true h0]
      refine iteT ⟨_, rfl, px, _, _, _, rfl, rfl, ((hx1.ex e2).ex e3).sq, ix1, _, _, rfl, rfl, _, rfl, rfl, _, rfl, iteNS (congrArg (fun b => V.str (tfS b)) h01) ?_⟩
    case' neg =>
      rw [if_neg (by simpa using h0)] at h01
      rw [decide_eq_false h0]
      refine iteF ⟨_, rfl, rfl, _, rfl, iteNS (congrArg (fun b => V.str (tfS b)) h01) ?_⟩
    all_goals (
      clear h01 h0
      refine ⟨_, rfl, o, q, rfl, (ho.ex e2).ex e3, fun b H4 e4 rb => ⟨b, q, rfl, rb, fun p5 H5 _ e5 r5 => ⟨_, rfl, ne_pair r5 ((((hx1.ex e2).ex e3).ex e4).ex e5) ⟨_, rfl, iteNS rfl ?_⟩⟩⟩⟩
      have ec := ((e2.trans e3).trans e4).trans e5
      have ho := ho.ex ec
      have b5 := b1.ex ec
      have kk := k1.trans ec.kp
      clear ec e2 e3 e4 e5 r5 rb hx1 hx
      refine ⟨_, rfl, (by show 1 ≤ sizeLine; decide), fun l1 hl1 => ⟨_, rfl, (by show 1 ≤ sizeLine; decide), fun t1 ht1 p1 hp1 p2 hp2 => ⟨_, rfl, upd_same, [(.inr (Str.ofString "1"), o)], rfl, (by show 1 ≤ 15; decide), (by show 9 ≤ sizeLine; decide), fun l hl => ?_⟩⟩⟩
      rw [upd_upd] at hl ⊢
      have n1 : l1 ≠ m := b5.free hl1
      have x1 : Ex H5 (upd H5 l1 (.lst [o])) := Ex.new hl1
      have a1 : upd H5 l1 (.lst [o]) l1 = some (.lst [o]) := upd_same
      generalize upd H5 l1 (.lst [o]) = Ha at x1 a1 ht1 hp1 hp2 hl ⊢
      have x2 : Ex Ha (upd Ha t1 (.tup [o])) := Ex.new ht1
      have a2 : upd Ha t1 (.tup [o]) t1 = some (.tup [o]) := upd_same
      generalize upd Ha t1 (.tup [o]) = Hb at x2 a2 hp1 hp2 hl ⊢
      have x3 : Ex Hb (upd Hb p1 (.dK [])) := Ex.new hp1
      have a3 : upd Hb p1 (.dK []) p1 = some (.dK []) := upd_same
      generalize upd Hb p1 (.dK []) = Hc at x3 a3 hp2 hl ⊢
      generalize mergeK [] [(.inr (Str.ofString "1"), o)] = dd at hl ⊢
      have x4 : Ex Hc (upd Hc p2 (.dK dd)) := Ex.new hp2
      have a4 : upd Hc p2 (.dK dd) p2 = some (.dK dd) := upd_same
      generalize upd Hc p2 (.dK dd) = Hd at x4 a4 hl ⊢
      have xx := ((x1.trans x2).trans x3).trans x4
      have nl : l ≠ m := (b5.ex xx).free hl
      have x5 : Ex Hd (upd Hd l (.lst [.non, .bl true, .bl false, .str (Str.ofString "1"), .ref l1, .ref t1, .ref p1, .str (Str.ofString ""), .ref p2])) := Ex.new hl
      have a5 : upd Hd l (.lst [.non, .bl true, .bl false, .str (Str.ofString "1"), .ref l1, .ref t1, .ref p1, .str (Str.ofString ""), .ref p2]) l = some (.lst [.non, .bl true, .bl false, .str (Str.ofString "1"), .ref l1, .ref t1, .ref p1, .str (Str.ofString ""), .ref p2]) := upd_same
      generalize upd Hd l (.lst [.non, .bl true, .bl false, .str (Str.ofString "1"), .ref l1, .ref t1, .ref p1, .str (Str.ofString ""), .ref p2]) = He at x5 a5 ⊢
      have a4 := x5 _ _ a4
      have a3 := x5 _ _ (x4 _ _ a3)
      have a2 := x5 _ _ (x4 _ _ (x3 _ _ a2))
      have a1 := x5 _ _ (x4 _ _ (x3 _ _ (x2 _ _ a1)))
      have b6 := (b5.ex xx).ex x5
      have kk := kk.trans (xx.trans x5).kp
      clear x1 x2 x3 x4 x5 xx hl1 ht1 hp1 hp2 hl
      refine ⟨_, rfl, m, 9, n + 1, rfl, by decide, by decide, b6, by omega, fun i H6 i0 i1 k6 b7 => ?_⟩
      have a1 := k6 _ _ a1 n1
      have a2 := k6 _ _ a2 (b6.ne a2 fun x z => by cases z)
      have a3 := k6 _ _ a3 (b6.ne a3 fun x z => by cases z)
      have a4 := k6 _ _ a4 (b6.ne a4 fun x z => by cases z)
      have a5 := k6 _ _ a5 nl
      have od : ∃ v, Odd K C H6 v ∧ atI ([.non, .bl true, .bl false, .str (Str.ofString "1"), .ref l1, .ref t1, .ref p1, .str (Str.ofString ""), .ref p2] : List V) i = some v := by
        have hw : i = 0 ∨ i = 1 ∨ i = 2 ∨ i = 3 ∨ i = 4 ∨ i = 5 ∨ i = 6 ∨ i = 7 ∨ i = 8 := by omega
        rcases hw with rfl | rfl | rfl | rfl | rfl | rfl | rfl | rfl | rfl
        · exact ⟨_, ⟨"NoneType", by simp, .base .non⟩, at_of (j := 0) rfl rfl⟩
        · exact ⟨_, ⟨"bool", by simp, .base (.bl _)⟩, at_of (j := 1) rfl rfl⟩
        · exact ⟨_, ⟨"bool", by simp, .base (.bl _)⟩, at_of (j := 2) rfl rfl⟩
        · exact ⟨_, ⟨"str", by simp, .base (.str _)⟩, at_of (j := 3) rfl rfl⟩
        · exact ⟨_, ⟨"list", by simp, .base (.lst a1)⟩, at_of (j := 4) rfl rfl⟩
        · exact ⟨_, ⟨"tuple", by simp, .base (.tup a2)⟩, at_of (j := 5) rfl rfl⟩
        · exact ⟨_, ⟨"dict", by simp, .base (.dK a3)⟩, at_of (j := 6) rfl rfl⟩
        · exact ⟨_, ⟨"str", by simp, .base (.str _)⟩, at_of (j := 7) rfl rfl⟩
        · exact ⟨_, ⟨"dict", by simp, .base (.dK a4)⟩, at_of (j := 8) rfl rfl⟩
      obtain ⟨v, ov, ev⟩ := od
      have tv := ov.tyn O
      refine ⟨l, _, _, _, rfl, rfl, SqL.of a5, ev, ?_⟩
      refine ⟨_, rfl, v, false, false, rfl, tv, _, rfl, v, rfl, .inr ⟨tv, _, rfl, v, rfl, .inr ⟨tv, (by show 3 ≤ sizeLine; decide), fun q1 hq1 => ⟨(by show 3 ≤ sizeLine; decide), fun q2 hq2 => ?_⟩⟩⟩⟩
      refine ⟨_, _, .lst (SqL.of (Ex.new hq2 _ _ upd_same)) (.cons (.bl _) (.cons (.bl _) (.cons (.bl _) .nil))), .lst (SqL.of upd_same) (.cons (.bl _) (.cons (.bl _) (.cons (.bl _) .nil))), rfl, rfl, ?_⟩
      exact k _ ((kk.trans k6).trans ((Ex.new hq1).trans (Ex.new hq2)).kp) (b7.ex ((Ex.new hq1).trans (Ex.new hq2))))
/-! ### lists of numbers -/
theorem take_sum : ∀ (qs : List Rat) (i : Nat) (q : Rat), qs[i]? = some q → (qs.take (i + 1)).sum = (qs.take i).sum + q
  | [], i, q, h => by simp at h
  | p :: r, 0, q, h => by
    have e : p = q := by simpa using h
    subst e
    simp [Rat.zero_add, Rat.add_zero]
  | p :: r, i + 1, q, h => by
    have h2 : r[i]? = some q := by simpa using h
    rw [List.take_succ_cons, List.take_succ_cons, List.sum_cons, List.sum_cons, take_sum r i q h2, Rat.add_assoc]
theorem sum_size (qs : List Rat) (zq : ∀ q ∈ qs, Sz 100 q) : ∀ i, i ≤ qs.length → Sz (101 * i + 1) (qs.take i).sum
  | 0, _ => by rw [List.take_zero]; exact ⟨by decide, by decide⟩
  | i + 1, h => by
    have hq : qs[i]? = some qs[i] := List.getElem?_eq_getElem h
    rw [take_sum qs i _ hq]
    have a := sum_size qs zq i (by omega)
    have b := zq qs[i] (List.getElem_mem h)
    have c := add_size a.1 a.2 b.1 b.2
    rw [show 101 * (i + 1) + 1 = 101 * i + 1 + 100 + 1 by omega]
    exact c
theorem Kp.mut {m p : Addr} {H H' : Hp} {o : HO} (k : Kp m H H') (h : H p = none) : Kp m H (upd H' p o) := fun a u e n => by rw [upd_ne (ne_of_none e h)]; exact k a u e n
theorem BagAt.mut {m p : Addr} {H : Hp} {o : HO} {n : Nat} (b : BagAt H m n) (h : p ≠ m) : BagAt (upd H p o) m n := by
  obtain ⟨x, y, z, hm, r⟩ := b
  exact ⟨x, y, z, by rw [upd_ne h.symm]; exact hm, r⟩
theorem least_step (qs : List Rat) (i : Nat) {q ql : Rat} (hq : qs[i]? = some q) (hl : qs[leastTo qs (i - 1)]? = some ql) : leastTo qs i = if q < ql then i else leastTo qs (i - 1) := by
  cases i with
  | zero => split <;> rfl
  | succ i =>
    rw [Nat.add_sub_cancel] at hl ⊢
    rw [leastTo, List.getD_eq_getElem?_getD, List.getD_eq_getElem?_getD, hq, hl]
    rfl
theorem neg_at {qs : List Rat} {i : Nat} {q : Rat} (h : qs[i]? = some q) : (qs.map fun q => -q)[i]? = some (-q) := by rw [List.getElem?_map, h]; rfl
theorem great_step (qs : List Rat) (i : Nat) {q qh : Rat} (hq : qs[i]? = some q) (hl : qs[leastTo (qs.map fun q => -q) (i - 1)]? = some qh) : leastTo (qs.map fun q => -q) i = if qh < q then i else leastTo (qs.map fun q => -q) (i - 1) := by
  rw [least_step _ i (neg_at hq) (neg_at hl)]
  by_cases h : qh < q
  · rw [if_pos h, if_pos (by grind)]
  · rw [if_neg h, if_neg (by grind)]
theorem eqv_ints (a b : Int) : PyData.eqv (.list [.int a, .int b]) (.list [.int a, .int b]) = true := by simp [PyData.eqv, PyData.eqvAll]
theorem same_things {H : Hp} {vs : List V} {qs : List Rat} (h : NumsAt C H vs qs) : Prs WB.DThing vs vs H := ⟨rfl, fun i x y e1 e2 => by
  obtain rfl : x = y := by
    rw [e1] at e2
    exact Option.some.inj e2
  obtain ⟨q, _, n⟩ := h.at e1
  rcases n with ⟨j, rfl, _⟩ | ⟨a, rfl, _⟩
  · exact .inl ⟨rfl, rfl, by simp [eqV]⟩
  · exact .inr ⟨a, rfl, rfl⟩⟩
/-- the walk: sum, first least, first greatest so far -/
def LoopC (m l D h kd : Addr) (qs : List Rat) (H0 : Hp) (i : Nat) (σ : L2.St) (H : Hp) : Prop := Ex H0 H ∧ ∃ pf v3 v9, σ = [some (.ref m), some (.ref l), some (.ref D), v3, some (.ref h), some (.ref kd), some (.ref pf), some (.int ((leastTo qs (i - 1) : Nat) : Int)), some (.int ((leastTo (qs.map fun q => -q) (i - 1) : Nat) : Int)), v9] ∧ RPair H pf (qs.take i).sum
/-- the numbers made so far -/
def BagC (C : Addr) (qs : List Rat) (m : Addr) (n : Nat) (H : Hp) (D : Addr) (i : Nat) (H' : Hp) : Prop := Kp m H H' ∧ BagAt H' m (n + i) ∧ ∃ bs, H' D = some (.lst bs) ∧ bs.length = i ∧ ∀ (j : Nat) v q, bs[j]? = some v → qs[j]? = some q → NumAt C H' v q
theorem BagC.start {qs : List Rat} {m : Addr} {n : Nat} {H : Hp} {D : Addr} (hD : H D = none) (b : BagAt H m n) : BagC C qs m n H D 0 (upd H D (.lst [])) := ⟨(Ex.new hD).kp, b.ex (Ex.new hD), [], upd_same, rfl, fun j v q h => by simp at h⟩
theorem BagC.turn {qs : List Rat} {m : Addr} {n i : Nat} {H H' H2 : Hp} {D : Addr} {v : V} {q : Rat} (hD : H D = none) (dm : D ≠ m) (p : BagC C qs m n H D i H') (k : Kp m H' H2) (b : BagAt H2 m (n + i + 1)) (hq : qs[i]? = some q) (nv : NumAt C H2 v q) (hi : i ≤ 1000) :
    ∃ acc, H2 D = some (.lst acc) ∧ acc.length < sizeLine ∧ BagC C qs m n H D (i + 1) (upd H2 D (.lst (acc ++ [v]))) := by
  obtain ⟨kp, bg, bs, hb, hl, hv⟩ := p
  have hb2 := k _ _ hb dm
  refine ⟨bs, hb2, by rw [hl]; exact len_line (by omega), Kp.mut (Kp.trans kp k) hD, BagAt.mut b dm, bs ++ [v], upd_same, by rw [List.length_append, hl]; rfl, fun j u r hj hr => ?_⟩
  rcases Nat.lt_or_ge j bs.length with h | h
  · rw [List.getElem?_append_left h] at hj
    exact ((hv j u r hj hr).kp bg k).st hb2
  · rw [List.getElem?_append_right h] at hj
    have h1 : j - bs.length < [v].length := (List.getElem?_eq_some_iff.mp hj).1
    have h2 : j = bs.length := by simp at h1; omega
    subst h2
    simp at hj
    subst hj
    rw [hl, hq] at hr
    cases hr
    exact nv.st hb2
abbrev s__law_lists_right : Stmt := top 40
theorem sc__law_lists_right : FnScope ["_law_bag_here", "_law_some", "_law_things", "_law_x", "_law_handed", "_law_kept", "_law_found", "_law_low", "_law_high", "_law_place"] ["_law_bag_here", "_law_some"] (defScope s__law_lists_right) := ⟨rfl, rfl, rfl, by decide +kernel, rfl, by decide +kernel, by decide +kernel⟩
def spLists : Sp := fun vs H Q _ => ∃ (m l : Addr) (ps : List V) (qs : List Rat) (n : Nat), vs = [.ref m, .ref l] ∧ BagAt H m n ∧ H l = some (.lst ps) ∧ l ≠ m ∧ ps.length = qs.length ∧ (∀ (i : Nat) v q, ps[i]? = some v → qs[i]? = some q → ∃ p, v = .ref p ∧ RPair H p q) ∧ (∀ q ∈ qs, Sz 100 q) ∧ 0 < qs.length ∧ qs.length ≤ 6 ∧ n + 8 ≤ 2 ^ 30 ∧ ∀ H', Kp m H H' → BagAt H' m (n + qs.length + 1) → Q (.bl true) H'
theorem ok_lists (F : FnP K "_law_lists_right" "_law_lists_right" s__law_lists_right [] f fd) (T : RatC K C) (O : RatO K C) (c__law_take : Callee P w K mg base 1 "_law_take" ["_law_bag_here", "_law_many"] spTake) (c__law_made : Callee P w K mg base 4 "_law_made" ["_law_bag_here", "_law_x"] (spMadeL C))
    (c__law_told : Callee P w K mg base 3 "_law_told" ["_law_figure"] (spTold C)) (c__law_plus : Callee P w K mg base 2 "_law_plus" ["_law_x", "_law_y"] (spArith fun q s => q + s)) (c__law_less : Callee P w K mg base 1 "_law_less" ["_law_x", "_law_y"] spLess)
    (c_total : Callee P w K mg base 6 "total" ["numbers"] (spTotal K C)) (c_least : Callee P w K mg base 6 "least" ["numbers"] (spLeast K C)) (c_greatest : Callee P w K mg base 7 "greatest" ["numbers"] (spGreatest K C)) (m_tuple : mg "tuple" = none) (m_list : mg "list" = none) (m_enumerate : mg "enumerate" = none) : FnX P w K mg base 9 f fd ["_law_bag_here", "_law_some"] spLists := by
  refine F.ok sc__law_lists_right (fun vs H Q E h => ?_) (fun cdv A outer s H vs Q E hr h => ?_)
  · obtain ⟨m, l, ps, qs, n, rfl, _⟩ := h
    rfl
  · obtain ⟨m, l, ps, qs, n, rfl, b0, hl, lm, pl, hp, zq, q0, q6, hn, k⟩ := h
    refine ⟨_, (pss_cons (ps_setLc (i := 2) (own := [("_law_x", 3)]) (g := gName 3) (by rfl) sc__law_lists_right.nd rfl rfl (sw_true rfl rfl rfl (by decide +kernel)) (pi_list (pv 1)) (blkOk_by (own := [("_law_x", 3)]) (N := ["_law_bag_here", "_law_some", "_law_things", "_law_x", "_law_handed", "_law_kept", "_law_found", "_law_low", "_law_high", "_law_place"]) (sc := defScope s__law_lists_right) (by decide +kernel)) (fun _ _ _ _ _ => (pg_name (i := 3) sc__law_lists_right.nd rfl (Or.inl rfl))) (fun _ _ _ _ _ => pts_nil) (fun _ _ _ _ _ => (pe_callee c__law_made (hr.mono (by decide)) (pa_cons (pv 0) (pa_cons (pv 3) pa_nil)))))
      (pss_cons (ps_par (i := 4) (j := 5) (by rfl) sc__law_lists_right.nd rfl rfl (by decide) rfl rfl (pa_cons (pe_ix ix_list (pe_lst (pa_cons (pv 2) (pa_cons (pe_callTy call_tuple_of (by rfl) m_tuple (by decide +kernel) (pa_cons (pv 2) pa_nil)) pa_nil))) (pe_callee c__law_take (hr.mono (by decide)) (pa_cons (pv 0) (pa_cons pe_int pa_nil))) (fun _ _ => rfl)) (pa_cons (pe_callTy call_list_of (by rfl) m_list (by decide +kernel) (pa_cons (pv 2) pa_nil)) pa_nil)) (by rfl))
      (pss_cons (ps_asg (pe_tup (pa_cons pe_int (pa_cons pe_int pa_nil))) (pg_name (i := 6) sc__law_lists_right.nd rfl (.inl rfl)))
      (pss_cons (ps_asg (pe_tup (pa_cons pe_int (pa_cons pe_int pa_nil))) (pg_tup (by rfl) (pgs_cons (pg_name (i := 7) sc__law_lists_right.nd rfl (.inl rfl)) (pgs_cons (pg_name (i := 8) sc__law_lists_right.nd rfl (.inl rfl)) pgs_nil))))
      (pss_cons (ps_for (passes_of rfl) rfl (pi_enum (by rfl) m_enumerate (pa_cons (pv 1) pa_nil)) (pg_tup (by rfl) (pgs_cons (pg_name (i := 9) sc__law_lists_right.nd rfl (.inl rfl)) (pgs_cons (pg_name (i := 3) sc__law_lists_right.nd rfl (.inl rfl)) pgs_nil))) (pss_cons (ps_asg (pe_callee c__law_plus (hr.mono (by decide)) (pa_cons (pv 6) (pa_cons (pv 3) pa_nil))) (pg_name (i := 6) sc__law_lists_right.nd rfl (.inl rfl)))
      (pss_cons (ps_asg (pe_ifExp (pt_val (pe_callee c__law_less (hr.mono (by decide)) (pa_cons (pv 3) (pa_cons (pe_ix ix_list (pv 1) (pv 7) (fun _ _ => rfl)) pa_nil)))) (pv 9) (pv 7)) (pg_name (i := 7) sc__law_lists_right.nd rfl (.inl rfl)))
      (pss_one (ps_asg (pe_ifExp (pt_val (pe_callee c__law_less (hr.mono (by decide)) (pa_cons (pe_ix ix_list (pv 1) (pv 8) (fun _ _ => rfl)) (pa_cons (pv 3) pa_nil)))) (pv 9) (pv 8)) (pg_name (i := 8) sc__law_lists_right.nd rfl (.inl rfl)))))))
      (pss_cons (ps_if (pt_cmpR (op_neD hr.units) (pe_lst (pa_cons (pe_callee c_least (hr.mono (by decide)) (pa_cons (pv 4) pa_nil)) (pa_cons (pe_callee c_greatest (hr.mono (by decide)) (pa_cons (pv 4) pa_nil)) pa_nil))) (pe_lst (pa_cons (pv 7) (pa_cons (pv 8) pa_nil))) (nomark _)) (pss_one (ps_ret pe_bl)) pss_nil)
      (pss_one (ps_ret (pe_and (pe_cmpR (op_eqD hr.units) (pe_callee c__law_told (hr.mono (by decide)) (pa_cons (pe_callee c_total (hr.mono (by decide)) (pa_cons (pv 4) pa_nil)) pa_nil)) (pv 6) (nomark _)) (pe_one (pe_cmpR (op_eqThings (hr.mono (by decide))) (pe_callTy call_list_of (by rfl) m_list (by decide +kernel) (pa_cons (pv 4) pa_nil)) (pv 5) (nomark _)))))))))))), ?_⟩
    have at_ : ∀ (i : Nat) v, ps[i]? = some v → ∃ q p, qs[i]? = some q ∧ v = .ref p ∧ RPair H p q ∧ Sz 100 q := fun i v e => by
      have l1 := (List.getElem?_eq_some_iff.mp e).1
      rw [pl] at l1
      have e2 : qs[i]? = some qs[i] := List.getElem?_eq_getElem l1
      obtain ⟨p, e3, r⟩ := hp i v _ e e2
      exact ⟨_, p, e2, e3, r, zq _ (List.getElem_mem l1)⟩
    refine ⟨_, rfl, l, rfl, ⟨ps, SqL.of hl⟩, fun D hD => lc_list (K := K) (a := l) (xs := ps) (BagC C qs m n H D) (.start hD b0) (fun i H' _ p => SqL.of (p.1 _ _ hl lm)) (fun i x H' hi p => ⟨rfl, ?_⟩) fun H1 p => ?_⟩
    · refine iteT (B := BagC C qs m n H D (i + 1) H') ?_
      obtain ⟨q, px, hq, ex, r, z⟩ := at_ i x hi
      subst ex
      have hi6 : i < 6 := by
        have := (List.getElem?_eq_some_iff.mp hi).1
        omega
      exact ⟨_, rfl, _, rfl, m, px, n + i, q, rfl, p.2.1, by omega, r.kp b0 p.1, z.mono (by decide), fun v H2 nv k2 b2 => p.turn hD (b0.free hD) k2 b2 hq nv (by omega)⟩
    · obtain ⟨kp, b1, bs, hb, hlb, hv⟩ := p
      rw [pl] at b1 hlb
      have dm := b0.free hD
      clear hD
      have hn1 : NumsAt C H1 bs qs := ⟨hlb, hv⟩
      clear hv
      refine ⟨_, rfl, _, rfl, D, bs, rfl, .inl ⟨SqL.of hb, fun t ht => ⟨(by show 2 ≤ sizeLine; decide), fun l2 hl2 => ?_⟩⟩⟩
      have tm := b1.free ht
      have x1 : Ex H1 (upd H1 t (.tup bs)) := Ex.new ht
      have a1 : upd H1 t (.tup bs) t = some (.tup bs) := upd_same
      generalize upd H1 t (.tup bs) = Ha at x1 a1 hl2 ⊢
      have lm2 := (b1.ex x1).free hl2
      have x2 : Ex Ha (upd Ha l2 (.lst [.ref D, .ref t])) := Ex.new hl2
      have a2 : upd Ha l2 (.lst [.ref D, .ref t]) l2 = some (.lst [.ref D, .ref t]) := upd_same
      generalize upd Ha l2 (.lst [.ref D, .ref t]) = Hb at x2 a2 ⊢
      have xx := x1.trans x2
      refine ⟨_, rfl, m, 2, n + qs.length, rfl, by decide, by decide, b1.ex xx, by omega, fun i H2 i0 i1 k2 b2 => ?_⟩
      have hbD := k2 _ _ (xx _ _ hb) dm
      have hbt := k2 _ _ (x2 _ _ a1) tm
      have hbl := k2 _ _ a2 lm2
      have hn2 : NumsAt C H2 bs qs := ⟨hlb, fun j v q a b => ((hn1.2 j v q a b).ex xx).kp (b1.ex xx) k2⟩
      have kk : Kp m H H2 := (Kp.trans kp xx.kp).trans k2
      clear x1 x2 a1 a2 xx ht hl2 k2 hn1 hb
      have hd : ∃ h, SqX K H2 h bs ∧ atI ([.ref D, .ref t] : List V) i = some (.ref h) := by
        have hw : i = 0 ∨ i = 1 := by omega
        rcases hw with rfl | rfl
        · exact ⟨D, .inl (SqL.of hbD), at_of (j := 0) rfl rfl⟩
        · exact ⟨t, .inr (SqT.of hbt), at_of (j := 1) rfl rfl⟩
      obtain ⟨h, sh, eh⟩ := hd
      refine ⟨l2, _, _, _, rfl, rfl, SqL.of hbl, eh, _, rfl, D, bs, rfl, .inl (SqL.of hbD), fun kd hkd => ⟨_, _, rfl, ?_⟩⟩
      refine ⟨(by show 2 ≤ sizeLine; decide), fun p0 hp0 => ?_⟩
      refine ⟨(by show 2 ≤ sizeLine; decide), fun p1 hp1 => ⟨p1, _, rfl, SqT.of upd_same, rfl, _, _, rfl, _, _, rfl, rfl, ?_⟩⟩
      have dkm := b2.free hkd
      have x1 : Ex H2 (upd H2 kd (.lst bs)) := Ex.new hkd
      have a1 : upd H2 kd (.lst bs) kd = some (.lst bs) := upd_same
      generalize upd H2 kd (.lst bs) = Ha at x1 a1 hp0 hp1 ⊢
      have x2 : Ex Ha (upd Ha p0 (.tup [.int 0, .int 1])) := Ex.new hp0
      have a2 : RPair (upd Ha p0 (.tup [.int 0, .int 1])) p0 0 := upd_same
      generalize upd Ha p0 (.tup [.int 0, .int 1]) = Hb at x2 a2 hp1 ⊢
      have x3 : Ex Hb (upd Hb p1 (.tup [.int 0, .int 0])) := Ex.new hp1
      generalize upd Hb p1 (.tup [.int 0, .int 0]) = H3 at x3 ⊢
      have xx := (x1.trans x2).trans x3
      have a1 := x3 _ _ (x2 _ _ a1)
      have a2 := a2.ex x3
      have b3 := b2.ex xx
      have sh := SqX.ex sh xx
      have hn3 := hn2.ex xx
      have kk := Kp.trans kk xx.kp
      have hl3 : H3 l = some (.lst ps) := kk _ _ hl lm
      clear x1 x2 x3 xx hkd hp0 hp1 hbD hbt hbl hn2 eh
      refine ⟨_, rfl, l, ps, rfl, SqL.of hl3, for_it (walk_enum (K := K) (a := l) (xs := ps)) (LoopC m l D h kd qs H3) ⟨Ex.rfl, p0, none, none, rfl, a2⟩ (fun i σ H' _ p => SqL.of (p.1 _ _ hl3)) (fun i x σ H' H'' hi p y => ?_) fun σ H' p => ?_⟩
      · obtain ⟨e4, pf, v3, v9, eσ, rf⟩ := p
        obtain ⟨T, a, b, ex, hT, eH, ea, eb⟩ := y
        subst ex eH eσ
        cases ea
        obtain ⟨q, px, hq, ex, r, z⟩ := at_ i b eb
        subst ex
        have hi6 : i < 6 := by omega
        have zs := (sum_size qs zq i (by omega)).mono (show 101 * i + 1 ≤ 4000 by omega)
        have z4 := z.mono (show 100 ≤ 4000 by decide)
        have lo := leastTo_le qs (i - 1)
        have hg := leastTo_le (qs.map fun q => -q) (i - 1)
        obtain ⟨ql, pl', hql, epl, rl, zl⟩ := at_ (leastTo qs (i - 1)) _ (List.getElem?_eq_getElem (by omega))
        obtain ⟨qh, ph', hqh, eph, rh, zh⟩ := at_ (leastTo (qs.map fun q => -q) (i - 1)) _ (List.getElem?_eq_getElem (by omega))
        have el : atI ps ((leastTo qs (i - 1) : Nat) : Int) = some (.ref pl') := by rw [← epl]; exact at_of rfl (List.getElem?_eq_getElem (by omega))
        have eh : atI ps ((leastTo (qs.map fun q => -q) (i - 1) : Nat) : Int) = some (.ref ph') := by rw [← eph]; exact at_of rfl (List.getElem?_eq_getElem (by omega))
        have s1 := least_step qs i hq hql
        have s2 := great_step qs i hq hqh
        have e5 := Ex.trans e4 (Ex.new (o := .tup [.int (i : Nat), .ref px]) hT)
        have rf := rf.ex (Ex.new (o := .tup [.int (i : Nat), .ref px]) hT)
        refine ⟨T, _, rfl, SqT.of upd_same, rfl, _, _, rfl, _, _, rfl, rfl, ?_⟩
        generalize upd H' T (.tup [.int (i : Nat), .ref px]) = H4 at e5 rf ⊢
        have kh := Kp.trans kk e5.kp
        refine ⟨_, rfl, _, rfl, pf, px, _, q, rfl, rf, r.kp b0 kh, zs, z4, fun pf2 H5 _ e6 rf2 => ?_⟩
        have kh := Kp.trans kh e6.kp
        have hl5 := kh _ _ hl lm
        refine ⟨_, rfl, _, rfl, _, rfl, l, ps, _, _, rfl, rfl, SqL.of hl5, el, px, pl', q, ql, rfl, r.kp b0 kh, rl.kp b0 kh, z4, zl.mono (by decide), _, rfl, ?_⟩
        by_cases c1 : q < ql
        case' pos =>
          rw [decide_eq_true c1]
          rw [if_pos c1] at s1
          refine iteT ⟨_, rfl, ?_⟩
        case' neg =>
          rw [decide_eq_false c1]
          rw [if_neg c1] at s1
          refine iteF ⟨_, rfl, ?_⟩
        all_goals (
          refine ⟨_, rfl, _, rfl, l, ps, _, _, rfl, rfl, SqL.of hl5, eh, _, rfl, ph', px, qh, q, rfl, rh.kp b0 kh, r.kp b0 kh, zh.mono (by decide), z4, _, rfl, ?_⟩
          by_cases c2 : qh < q
          case' pos =>
            rw [decide_eq_true c2]
            rw [if_pos c2] at s2
            refine iteT ⟨_, rfl, ?_⟩
          case' neg =>
            rw [decide_eq_false c2]
            rw [if_neg c2] at s2
            refine iteF ⟨_, rfl, ?_⟩
          all_goals exact ⟨Ex.trans e5 e6, pf2, some (.ref px), some (.int i), by rw [Nat.add_sub_cancel, s1, s2]; rfl, by rw [take_sum qs i q hq]; exact rf2⟩)
      · obtain ⟨e4, pf, v3, v9, eσ, rf⟩ := p
        subst eσ
        rw [pl] at *
        rw [List.take_length] at rf
        have z9 : ∀ q ∈ qs, Sz 9000 q := fun q hq => (zq q hq).mono (by decide)
        have bx := b3.ex e4
        refine ⟨_, rfl, h, bs, qs, rfl, SqX.ex sh e4, hn3.ex e4, by omega, by omega, z9, fun H5 e5 => ⟨_, rfl, h, bs, qs, rfl, SqX.ex (SqX.ex sh e4) e5, (hn3.ex e4).ex e5, by omega, by omega, z9, fun H6 e6 => ⟨(by show 2 ≤ sizeLine; decide), fun q1 hq1 => ⟨_, rfl, _, rfl, (by show 2 ≤ sizeLine; decide), fun q2 hq2 => ?_⟩⟩⟩⟩
        refine ⟨_, _, .lst (SqL.of (Ex.new hq2 _ _ upd_same)) (.cons (.int _) (.cons (.int _) .nil)), .lst (SqL.of upd_same) (.cons (.int _) (.cons (.int _) .nil)), rfl, rfl, _, rfl, ?_⟩
        rw [eqv_ints]
        refine iteF ?_
        have e8 := (((Ex.trans e4 e5).trans e6).trans (Ex.new (o := .lst [.int ((leastTo qs (qs.length - 1) : Nat) : Int), .int ((leastTo (qs.map fun q => -q) (qs.length - 1) : Nat) : Int)]) hq1)).trans (Ex.new (o := .lst [.int ((leastTo qs (qs.length - 1) : Nat) : Int), .int ((leastTo (qs.map fun q => -q) (qs.length - 1) : Nat) : Int)]) hq2)
        have rf := ((rf.ex e5).ex e6).ex ((Ex.new (o := .lst [.int ((leastTo qs (qs.length - 1) : Nat) : Int), .int ((leastTo (qs.map fun q => -q) (qs.length - 1) : Nat) : Int)]) hq1).trans (Ex.new (o := .lst [.int ((leastTo qs (qs.length - 1) : Nat) : Int), .int ((leastTo (qs.map fun q => -q) (qs.length - 1) : Nat) : Int)]) hq2))
        refine ⟨_, rfl, h, bs, qs, 100, rfl, SqX.ex sh e8, hn3.ex e8, zq, by omega, by omega, by omega, fun t3 H7 _ e9 r3 => ⟨t3, _, rfl, r3, fun p4 H8 _ e10 r4 => ⟨_, rfl, eq_pair r4 ((rf.ex e9).ex e10) ⟨_, rfl, ?_⟩⟩⟩⟩
        rw [decide_eq_true rfl]
        have ee := (Ex.trans e8 e9).trans e10
        refine iteT ⟨_, rfl, h, bs, rfl, SqX.ex sh ee, fun nl hnl => ⟨_, rfl, ⟨nl, kd, bs, bs, rfl, rfl, upd_same, Ex.new hnl _ _ (ee _ _ a1), same_things ((hn3.ex ee).ex (Ex.new hnl))⟩, fun H9 e11 => ?_⟩⟩
        have ef : Ex _ H9 := (Ex.trans ee (Ex.new (o := .lst bs) hnl)).trans e11
        exact k H9 (Kp.trans kk ef.kp) (b3.ex ef)
/-! ### the law -/
abbrev s_law : Stmt := top 41
theorem sc_law : FnScope ["_law_script", "_law_index", "_law_bag_here", "_law_some", "_law_lap", "_law_over_here", "_law_lo", "_law_x", "_law_opposite", "_law_y"] ["_law_script"] (defScope s_law) := ⟨rfl, rfl, rfl, by decide +kernel, rfl, by decide +kernel, by decide +kernel⟩
def spLaw (K : Fg) : Sp := fun vs H Q _ => ∃ (l : Addr) (ns : List Int), vs = [.ref l] ∧ SqL K H l (ns.map V.int) ∧ ns.length ≤ 100000 ∧ ∀ H', Q (.bl true) H'
structure LawH (P : Program) (w : World) (K : Fg) (mg : Str → Option Value) (base : Heap) (C CZ : Addr) : Prop where
  cell : Callee P w K mg base 1 "_law_cell" ["_law_script", "_law_index"] (spCell K)
  bag : Callee P w K mg base 1 "_law_bag" ["_law_cell_here"] spBag
  take : Callee P w K mg base 1 "_law_take" ["_law_bag_here", "_law_many"] spTake
  pair : Callee P w K mg base 3 "_law_pair" ["_law_bag_here"] spPairL
  frac : Callee P w K mg base 1 "_law_frac" ["_law_up", "_law_down"] spFrac
  told : Callee P w K mg base 3 "_law_told" ["_law_figure"] (spTold C)
  two : Callee P w K mg base 7 "_law_two_right" ["_law_bag_here", "_law_x", "_law_y"] (spTwo C)
  kinds : Callee P w K mg base 9 "_law_kinds_right" ["_law_bag_here", "_law_x"] spKinds
  lists : Callee P w K mg base 9 "_law_lists_right" ["_law_bag_here", "_law_some"] spLists
  total : Callee P w K mg base 6 "total" ["numbers"] (spTotal K C)
  k2 : Maker P w K mg base 2 "Ratio" C ["self", "top", "bottom"] [] (spRInit C CZ)
  k1 : Maker P w K mg base 2 "Ratio" C ["self", "top", "bottom"] [.int 1] (spRInit C CZ)
  kbt : MakerK P w K mg base 2 "Ratio" C ["self", "top", "bottom"] ["bottom", "top"] (fun vs zs => vs ++ zs.reverse) (spRInit C CZ)
  ktb : MakerK P w K mg base 2 "Ratio" C ["self", "top", "bottom"] ["top", "bottom"] (fun vs zs => vs ++ zs) (spRInit C CZ)
  number : CalleeK P w K mg base 2 "is_number" ["value"] ["value"] (fun vs zs => zs) (spNumber K C)
  amount : CalleeK P w K mg base 6 "is_amount" ["value"] ["value"] (fun vs zs => zs) (spAmount K C)
  share : CalleeK P w K mg base 7 "is_share" ["value"] ["value"] (fun vs zs => zs) (spShare K C)
  asr : CalleeK P w K mg base 4 "as_ratio" ["number"] ["number"] (fun vs zs => zs) (spAsRatio C)
  totalK : CalleeK P w K mg base 6 "total" ["numbers"] ["numbers"] (fun vs zs => zs) (spTotal K C)
  leastK : CalleeK P w K mg base 6 "least" ["numbers"] ["numbers"] (fun vs zs => zs) (spLeast K C)
  greatK : CalleeK P w K mg base 7 "greatest" ["numbers"] ["numbers"] (fun vs zs => zs) (spGreatest K C)
  below : MthdK P w K mg base 5 C "below" ["self", "number"] ["number"] (fun vs zs => vs ++ zs) (spBelow C)
  over : MthdK P w K mg base 5 C "over" ["self", "number"] ["number"] (fun vs zs => vs ++ zs) (spOver C CZ)
  bottom : Getter P w K mg base 1 C "bottom" (spBottom C)
  eq : EqOk P w K mg base 3 C (spEqR K C)
/-- a list of quotients as tuples -/
def PairsAt (H : Hp) (ps : List V) (qs : List Rat) : Prop := ps.length = qs.length ∧ ∀ (i : Nat) v q, ps[i]? = some v → qs[i]? = some q → ∃ p, v = .ref p ∧ RPair H p q
theorem PairsAt.ex {H H' : Hp} {ps : List V} {qs : List Rat} (p : PairsAt H ps qs) (e : Ex H H') : PairsAt H' ps qs := ⟨p.1, fun i v q a b => (p.2 i v q a b).elim fun x h => ⟨x, h.1, h.2.ex e⟩⟩
theorem PairsAt.kp {H H' : Hp} {m : Addr} {n : Nat} {ps : List V} {qs : List Rat} (p : PairsAt H ps qs) (b : BagAt H m n) (k : Kp m H H') : PairsAt H' ps qs := ⟨p.1, fun i v q a c => (p.2 i v q a c).elim fun x h => ⟨x, h.1, h.2.kp b k⟩⟩
theorem RPair.st {H : Hp} {S p : Addr} {q : Rat} {acc acc0 : List V} (h : H S = some (.lst acc0)) (r : RPair H p q) : RPair (upd H S (.lst acc)) p q := by
  show upd H S (.lst acc) p = _
  rw [upd_ne (ne_of r h (by intro z; cases z))]
  exact r
theorem PairsAt.st {H : Hp} {S : Addr} {ps : List V} {qs : List Rat} {acc acc0 : List V} (p : PairsAt H ps qs) (h : H S = some (.lst acc0)) : PairsAt (upd H S (.lst acc)) ps qs := ⟨p.1, fun i v q a c => (p.2 i v q a c).elim fun x r => ⟨x, r.1, RPair.st h r.2⟩⟩
theorem PairsAt.app {H : Hp} {ps rs : List V} {qs ts : List Rat} (p : PairsAt H ps qs) (r : PairsAt H rs ts) : PairsAt H (ps ++ rs) (qs ++ ts) := by
  refine ⟨by rw [List.length_append, List.length_append, p.1, r.1], fun i v q a b => ?_⟩
  rcases Nat.lt_or_ge i ps.length with h | h
  · rw [List.getElem?_append_left h] at a
    rw [List.getElem?_append_left (by rw [← p.1]; exact h)] at b
    exact p.2 i v q a b
  · rw [List.getElem?_append_right h] at a
    rw [List.getElem?_append_right (by rw [← p.1]; exact h), ← p.1] at b
    exact r.2 _ v q a b
theorem PairsAt.one {H : Hp} {p : Addr} {q : Rat} (r : RPair H p q) : PairsAt H [.ref p] [q] := ⟨rfl, fun i v t a b => by
  cases i with
  | zero =>
    cases (show V.ref p = v from Option.some.inj a)
    cases (show q = t from Option.some.inj b)
    exact ⟨p, rfl, r⟩
  | succ i => simp at a⟩
theorem PairsAt.nil {H : Hp} : PairsAt H [] [] := ⟨rfl, fun i v q a => by simp at a⟩
theorem PairsAt.at {H : Hp} {ps : List V} {qs : List Rat} (p : PairsAt H ps qs) {i : Nat} {v : V} (e : ps[i]? = some v) : ∃ q x, q ∈ qs ∧ v = .ref x ∧ RPair H x q := by
  have l1 := (List.getElem?_eq_some_iff.mp e).1
  rw [p.1] at l1
  obtain ⟨x, h, r⟩ := p.2 i v _ e (List.getElem?_eq_getElem l1)
  exact ⟨_, x, List.getElem_mem l1, h, r⟩
theorem PairsAt.dp {H : Hp} : ∀ {ps : List V} {qs : List Rat}, PairsAt H ps qs → ∃ ds, DpAll K H ps ds ∧ (ds = [] ↔ ps = []) ∧ (PyData.list ds).canLay0 = true ∧ (PyData.list ds).depth ≤ 2
  | [], qs, _ => ⟨[], .nil, by simp, rfl, by decide⟩
  | v :: ps, [], p => by cases p.1
  | v :: ps, q :: qs, p => by
    obtain ⟨x, h, r⟩ := p.2 0 v q rfl rfl
    subst h
    obtain ⟨ds, d, _, sd, s2⟩ := PairsAt.dp (ps := ps) (qs := qs) ⟨Nat.succ.inj p.1, fun i v q a b => p.2 (i + 1) v q a b⟩
    exact ⟨_, .cons (pairD r) d, by simp, by simpa [PyData.canLay0, PyData.canLayAll0] using sd, by simp only [PyData.depth, PyData.depthAll] at s2 ⊢; omega⟩
theorem at_last {xs : List V} (h : 0 < xs.length) : ∃ v, atI xs (-1) = some v ∧ xs[xs.length - 1]? = some v := by
  have hne : xs ≠ [] := fun z => by
    subst z
    cases h
  refine ⟨xs.getLast hne, ?_, by rw [List.getLast_eq_getElem]; exact List.getElem?_eq_getElem _⟩
  have e := atI_last xs.dropLast (xs.getLast hne)
  rwa [List.dropLast_concat_getLast hne] at e
theorem eqv_nil (ds : List PyData) : PyData.eqv (.list ds) (.list []) = decide (ds = []) := by
  cases ds with
  | nil => simp [PyData.eqv, PyData.eqvAll]
  | cons a r => simp [PyData.eqv, PyData.eqvAll]
theorem Kp.grow {m : Addr} {H0 H H' : Hp} (e : Ex H0 H) (k : Kp m H H') (h : H0 m = none) : Ex H0 H' := fun a o x => k a o (e a o x) (ne_of_none x h)
theorem sz_frac {u d : Int} (d0 : d ≠ 0) (hu : u.natAbs < 2 ^ 100) (hd : d.natAbs < 2 ^ 100) : Sz 100 (Rat.divInt u d) := ⟨Nat.lt_of_le_of_lt (num_le u d d0) hu, Nat.lt_of_le_of_lt (den_le u d d0) hd⟩
theorem sz_neg {n : Nat} {q : Rat} (h : Sz n q) : Sz n (-q) := ⟨by rw [Rat.neg_num, Int.natAbs_neg]; exact h.1, by rw [Rat.neg_den]; exact h.2⟩
theorem use_neC {σ : L2.St} {H : Hp} {a : Addr} {y : V} {q r : Rat} {Q : VK} (O : RatO K C) (ra : RatAt C H a q) (hn : NumAt C H y r) (k : Q (.bl (!decide (q = r))) H) : tC y σ H (fun y H2 => rOwnNe K C (spEqR K C) (.ref a) y H2 Q) := use_ne O ra hn k
theorem sz10 {n : Nat} {q : Rat} (h : Sz 10 q) (l : 10 ≤ n) : Sz n q := h.mono l
theorem nums2 {H : Hp} (i j : Int) : NumsAt C H [.int i, .int j] [(i : Rat), (j : Rat)] := ⟨rfl, fun n v q a b => by
  rcases n with _ | _ | n
  · cases (show V.int i = v from Option.some.inj a)
    cases (show (i : Rat) = q from Option.some.inj b)
    exact .inl ⟨i, rfl, rfl⟩
  · cases (show V.int j = v from Option.some.inj a)
    cases (show (j : Rat) = q from Option.some.inj b)
    exact .inl ⟨j, rfl, rfl⟩
  · simp at a⟩
theorem eqv_tft : PyData.eqv (.list [.bool true, .bool false, .bool true]) (.list [.bool true, .bool false, .bool true]) = true := by simp [PyData.eqv, PyData.eqvAll]
theorem small9 {d : Int} (h : d.natAbs < 10) : d.natAbs < 2 ^ 9000 := Nat.lt_of_lt_of_le (Nat.lt_of_lt_of_le h (by decide : 10 ≤ 2 ^ 4)) (Nat.pow_le_pow_right (by decide) (by decide))
/-- behind j laps -/
def LapP (l m S : Addr) (H1 : Hp) (j : Nat) (σ : L2.St) (H : Hp) : Prop := Ex H1 H ∧ BagAt H m (1 + 12 * j) ∧ (∃ v1 v4 v5 v6 v7 v8 v9, σ = [some (.ref l), v1, some (.ref m), some (.ref S), v4, v5, v6, v7, v8, v9]) ∧ ∃ ps qs, H S = some (.lst ps) ∧ PairsAt H ps qs ∧ ps.length = j ∧ ∀ q ∈ qs, Sz 100 q
/-- behind i of the figures -/
def FigP (l m S : Addr) (H1 : Hp) (n i : Nat) (σ : L2.St) (H : Hp) : Prop := Kp m H1 H ∧ BagAt H m (n + 6 * i) ∧ ∃ v1 v4 v5 v6 v7 v8 v9, σ = [some (.ref l), v1, some (.ref m), some (.ref S), v4, v5, v6, v7, v8, v9]
theorem ok_law (F : FnP K "law" "law" s_law [] f fd) (T : RatC K C) (O : RatO K C) (h : LawH P w K mg base C CZ) (m_range : mg "range" = none) (m_max : mg "max" = none) (m_min : mg "min" = none) (m_len : mg "len" = none) : FnX P w K mg base 12 f fd ["_law_script"] (spLaw K) := by
  refine F.ok sc_law (fun vs H Q E h => ?_) (fun cdv A outer s H vs Q E hr hh => ?_)
  · obtain ⟨l, ns, rfl, _⟩ := h
    rfl
  · obtain ⟨l, ns, rfl, hl, hn, k⟩ := hh
    have c__law_cell := h.cell
    have c__law_bag := h.bag
    have c__law_take := h.take
    have c__law_pair := h.pair
    have c__law_frac := h.frac
    have c__law_told := h.told
    have c__law_two_right := h.two
    have c__law_kinds_right := h.kinds
    have c__law_lists_right := h.lists
    have c_total := h.total
    have k_Ratio2 := h.k2
    have k_Ratio1 := h.k1
    have kk_Ratio_bottom_top := h.kbt
    have kk_Ratio_top_bottom := h.ktb
    have ck_is_number := h.number
    have ck_is_amount := h.amount
    have ck_is_share := h.share
    have ck_as_ratio := h.asr
    have ck_total := h.totalK
    have ck_least := h.leastK
    have ck_greatest := h.greatK
    have mk_below := h.below
    have mk_over := h.over
    have p_bottom := h.bottom
    have e_eq := h.eq
    refine ⟨_, (pss_cons (ps_for (passes_of rfl) rfl (pi_range1 (by rfl) m_range (pa_cons (pe_callB (call_max2 rfl) (by rfl) m_max (by decide +kernel) (pa_cons pe_int (pa_cons (pe_callB (call_min2 rfl) (by rfl) m_min (by decide +kernel) (pa_cons pe_int (pa_cons (pe_callB call_len (by rfl) m_len (by decide +kernel) (pa_cons (pv 0) pa_nil)) pa_nil))) pa_nil))) pa_nil)) (pg_name (i := 1) sc_law.nd rfl (.inl rfl)) (pss_cons (ps_asg (pe_callee c__law_bag (hr.mono (by decide)) (pa_cons (pe_callee c__law_cell (hr.mono (by decide)) (pa_cons (pv 0) (pa_cons (pv 1) pa_nil))) pa_nil)) (pg_name (i := 2) sc_law.nd rfl (.inl rfl)))
      (pss_cons (ps_asg (pe_lst pa_nil) (pg_name (i := 3) sc_law.nd rfl (.inl rfl)))
      (pss_cons (ps_for (passes_of rfl) rfl (pi_range1 (by rfl) m_range (pa_cons (pe_op op_add pe_int (pe_callee c__law_take (hr.mono (by decide)) (pa_cons (pv 2) (pa_cons pe_int pa_nil)))) pa_nil)) (pg_name (i := 4) sc_law.nd rfl (.inl rfl)) (pss_cons (ps_asg (pe_callee c__law_pair (hr.mono (by decide)) (pa_cons (pv 2) pa_nil)) (pg_tup (by rfl) (pgs_cons (pg_name (i := 5) sc_law.nd rfl (.inl rfl)) (pgs_cons (pg_name (i := 6) sc_law.nd rfl (.inl rfl)) pgs_nil))))
      (pss_cons (ps_asg (pe_callee c__law_frac (hr.mono (by decide)) (pa_cons (pv 5) (pa_cons (pv 6) pa_nil))) (pg_name (i := 7) sc_law.nd rfl (.inl rfl)))
      (pss_cons (ps_if (PW.pt (pw_or (pt_cmpR (op_neD hr.units) (pe_callee c__law_told (hr.mono (by decide)) (pa_cons (pe_maker k_Ratio2 (hr.mono (by decide)) passL (pa_cons (pv 5) (pa_cons (pv 6) pa_nil))) pa_nil)) (pv 7) (nomark _)) (pw_or1 (pt_cmpR (op_neD hr.units) (pe_callee c__law_told (hr.mono (by decide)) (pa_cons (pe_makerK kk_Ratio_bottom_top (hr.mono (by decide)) passL (pk_cons (pv 6) (pk_cons (pv 5) pk_nil))) pa_nil)) (pv 7) (nomark _))))) (pss_one (ps_ret pe_bl)) pss_nil)
      (pss_one (ps_expr (pe_bm PySem.F.plainAttrs_list PySem.F.slot_list_append PySem.F.type_list_append mt_append (pv 3) (pa_cons (pe_ifExp (PW.pt (pw_or (pt_cmpR op_gt (pe_callee c__law_take (hr.mono (by decide)) (pa_cons (pv 2) (pa_cons pe_int pa_nil))) pe_int (nomark _)) (pw_or1 (pt_cmpR (op_eqD hr.units) (pv 3) (pe_lst pa_nil) (nomark _))))) (pv 7) (pe_ix ix_list (pv 3) pe_int (fun _ _ => rfl))) pa_nil))))))))
      (pss_cons (ps_asg (pe_tup (pa_cons (pe_un un_neg (pe_ix ix_seq (pe_ix ix_list (pv 3) pe_int (fun _ _ => rfl)) pe_int (fun _ _ => rfl))) (pa_cons (pe_ix ix_seq (pe_ix ix_list (pv 3) pe_int (fun _ _ => rfl)) pe_int (fun _ _ => rfl)) pa_nil))) (pg_name (i := 8) sc_law.nd rfl (.inl rfl)))
      (pss_cons (ps_for (passes_of rfl) rfl (pi_list (pe_op op_cat (pv 3) (pe_lst (pa_cons (pv 8) (pa_cons (pe_tup (pa_cons pe_int (pa_cons pe_int pa_nil))) pa_nil))))) (pg_name (i := 9) sc_law.nd rfl (.inl rfl)) (pss_cons (ps_if (PW.pt (pw_or (pt_not (pt_val (pe_callee c__law_two_right (hr.mono (by decide)) (pa_cons (pv 2) (pa_cons (pe_ix ix_list (pv 3) pe_int (fun _ _ => rfl)) (pa_cons (pv 9) pa_nil)))))) (pw_or1 (pt_not (pt_val (pe_callee c__law_two_right (hr.mono (by decide)) (pa_cons (pv 2) (pa_cons (pv 9) (pa_cons (pe_ix ix_list (pv 3) (pe_un un_neg pe_int) (fun _ _ => rfl)) pa_nil))))))))) (pss_one (ps_ret pe_bl)) pss_nil)
      (pss_one (ps_if (pt_not (pt_val (pe_callee c__law_kinds_right (hr.mono (by decide)) (pa_cons (pv 2) (pa_cons (pv 9) pa_nil))))) (pss_one (ps_ret pe_bl)) pss_nil))))
      (pss_one (ps_if (pt_not (pt_val (pe_callee c__law_lists_right (hr.mono (by decide)) (pa_cons (pv 2) (pa_cons (pv 3) pa_nil))))) (pss_one (ps_ret pe_bl)) pss_nil))))))))
      (pss_cons (ps_if (pt_cmpR (op_neD hr.units) (pe_lst (pa_cons (pe_calleeK ck_is_number (hr.mono (by decide)) passL (pk_cons pe_int pk_nil)) (pa_cons (pe_calleeK ck_is_amount (hr.mono (by decide)) passL (pk_cons (pe_un un_neg pe_int) pk_nil)) (pa_cons (pe_calleeK ck_is_share (hr.mono (by decide)) passL (pk_cons (pe_maker k_Ratio2 (hr.mono (by decide)) passL (pa_cons pe_int (pa_cons pe_int pa_nil))) pk_nil)) pa_nil)))) (pe_lst (pa_cons pe_bl (pa_cons pe_bl (pa_cons pe_bl pa_nil)))) (nomark _)) (pss_one (ps_ret pe_bl)) pss_nil)
      (pss_cons (ps_if (PW.pt (pw_or (pt_cmpR op_notAny (pe_mthdK mk_below (pe_maker k_Ratio2 (hr.mono (by decide)) passL (pa_cons pe_int (pa_cons pe_int pa_nil))) (hr.mono (by decide)) passL (pk_cons pe_int pk_nil)) pe_bl (nomark _)) (pw_or1 (pt_cmpR (op_ownNe e_eq (hr.mono (by decide))) (pe_mthdK mk_over (pe_maker k_Ratio2 (hr.mono (by decide)) passL (pa_cons pe_int (pa_cons pe_int pa_nil))) (hr.mono (by decide)) passL (pk_cons pe_int pk_nil)) (pe_maker k_Ratio2 (hr.mono (by decide)) passL (pa_cons pe_int (pa_cons pe_int pa_nil))) (nomark _))))) (pss_one (ps_ret pe_bl)) pss_nil)
      (pss_cons (ps_if (PW.pt (pw_or (pt_cmpR (op_ownNe e_eq (hr.mono (by decide))) (pe_calleeK ck_as_ratio (hr.mono (by decide)) passL (pk_cons pe_int pk_nil)) pe_int (nomark _)) (pw_or1 (pt_cmpR (op_neG (mon_flat.or mon_rat) ((eqG_flat.mono (by decide)).or (eqG_rat e_eq O.si)) (hr.mono (by decide))) (pe_lst (pa_cons (pe_calleeK ck_total (hr.mono (by decide)) passL (pk_cons (pe_lst (pa_cons pe_int (pa_cons pe_int pa_nil))) pk_nil)) (pa_cons (pe_calleeK ck_least (hr.mono (by decide)) passL (pk_cons (pe_lst (pa_cons pe_int (pa_cons pe_int pa_nil))) pk_nil)) (pa_cons (pe_calleeK ck_greatest (hr.mono (by decide)) passL (pk_cons (pe_tup (pa_cons pe_int (pa_cons pe_int pa_nil))) pk_nil)) pa_nil)))) (pe_lst (pa_cons pe_int (pa_cons pe_int (pa_cons pe_int pa_nil)))) (nomark _))))) (pss_one (ps_ret pe_bl)) pss_nil)
      (pss_one (ps_ret (pe_and (pe_cmpR (op_eqD hr.units) (pe_callee c__law_told (hr.mono (by decide)) (pa_cons (pe_callee c_total (hr.mono (by decide)) (pa_cons (pe_lst pa_nil) pa_nil)) pa_nil)) (pe_tup (pa_cons pe_int (pa_cons pe_int pa_nil))) (nomark _)) (pe_and (pe_cmpR op_eq (pe_getter p_bottom (hr.mono (by decide)) (pe_maker k_Ratio1 (hr.mono (by decide)) passL (pa_cons pe_int pa_nil))) pe_int (nomark _)) (pe_one (pe_cmpR (op_eqD hr.units) (pe_callee c__law_told (hr.mono (by decide)) (pa_cons (pe_makerK kk_Ratio_top_bottom (hr.mono (by decide)) passL (pk_cons pe_int (pk_cons (pe_un un_neg pe_int) pk_nil))) pa_nil)) (pe_tup (pa_cons (pe_un un_neg pe_int) (pa_cons pe_int pa_nil))) (nomark _))))))))))), ?_⟩
    refine ⟨_, rfl, .ref l, _, rfl, .inl ⟨_, hl, rfl⟩, _, _, rfl, _, _, rfl, _, rfl, by split <;> split <;> omega, by split <;> split <;> omega, for_range (lo := 0) (fun i σ H' => Ex H H' ∧ ∃ v1 v2 v3 v4 v5 v6 v7 v8 v9, σ = [some (.ref l), v1, v2, v3, v4, v5, v6, v7, v8, v9]) ⟨Ex.rfl, none, none, none, none, none, none, none, none, none, rfl⟩ (fun i σ H1 hi p => ?_) fun σ H1 p => ?_⟩
    · obtain ⟨e1, v1, v2, v3, v4, v5, v6, v7, v8, v9, eσ⟩ := p
      subst eσ
      have hi10 : i < 100 := by
        refine Nat.lt_of_lt_of_le hi ?_
        split <;> split <;> omega
      clear hi
      refine ⟨_, rfl, _, rfl, l, 0 + i, ns, rfl, SqL.ex hl e1, by omega, by omega, hn, fun c => ⟨c, rfl, fun m H2 hm e2 b2 => ⟨(by show 0 ≤ sizeLine; decide), fun S hS => ?_⟩⟩⟩
      have sm := b2.free hS
      have hS1 : H1 S = none := Ex.free e2 hS
      have hm1 := hm
      have e3 : Ex H1 (upd H2 S (.lst [])) := e2.trans (Ex.new hS)
      have b3 := b2.ex (Ex.new (o := .lst []) hS)
      have a3 : upd H2 S (.lst []) S = some (.lst []) := upd_same
      generalize upd H2 S (.lst []) = H3 at e3 b3 a3 ⊢
      refine ⟨_, rfl, m, 6, 0, rfl, by decide, by decide, b3, by decide, fun r H4 r0 r6 k4 b4 => ⟨_, _, rfl, rfl, _, rfl, by omega, by omega, for_range (lo := 0) (LapP l m S H1) ⟨Kp.grow e3 k4 hm, b4.mono (by omega), ⟨_, _, _, _, _, _, _, rfl⟩, [], [], k4 _ _ a3 sm, .nil, rfl, fun q h => by cases h⟩ (fun j σ H5 hj p => ?_) fun σ H5 p => ?_⟩⟩
      · obtain ⟨e5, b5, ⟨v1, v4, v5, v6, v7, v8, v9, eσ⟩, ps, qs, a5, hp5, lp5, z5⟩ := p
        subst eσ
        have hj6 : j < 6 := by omega
        refine ⟨_, rfl, m, 1 + 12 * j, rfl, b5, by omega, fun p u d H6 hu hd d0 hp6 k6 b6 => ⟨p, _, rfl, SqT.of hp6, rfl, _, _, rfl, _, _, rfl, rfl, ?_⟩⟩
        have d9 : d.natAbs < 2 ^ 9000 := Nat.lt_of_lt_of_le hd (Nat.pow_le_pow_right (by decide) (by decide))
        have zu := sz_frac d0 hu hd
        refine ⟨_, rfl, _, rfl, u, d, rfl, d0, d9, fun px H7 hpx e7 r7 => ?_⟩
        have k7 := Kp.trans k6 e7.kp
        have b7 := b6.ex e7
        refine ⟨_, rfl, _, rfl, fun a da ha hda _ => ⟨a, da, u, d, rfl, upd_same, .inl ⟨d0, d9, rfl, ?_⟩⟩⟩
        rw [upd_upd]
        obtain ⟨e8, ra⟩ := rat_new (C := C) ha hda (Rat.divInt u d)
        generalize upd (upd H7 da (.own a)) a (.ins C da (ratF (Rat.divInt u d))) = H8 at e8 ra ⊢
        refine ⟨a, _, rfl, ra, fun p9 H9 _ e9 r9 => ⟨_, rfl, ne_pair r9 ((r7.ex e8).ex e9) ⟨_, rfl, iteNS rfl ?_⟩⟩⟩
        refine ⟨_, rfl, _, rfl, rfl, rfl, fun a2 da2 ha2 hda2 _ => ⟨a2, da2, u, d, rfl, upd_same, .inl ⟨d0, d9, rfl, ?_⟩⟩⟩
        rw [upd_upd]
        obtain ⟨e10, rb⟩ := rat_new (C := C) ha2 hda2 (Rat.divInt u d)
        generalize upd (upd H9 da2 (.own a2)) a2 (.ins C da2 (ratF (Rat.divInt u d))) = H10 at e10 rb ⊢
        refine ⟨a2, _, rfl, rb, fun p11 H11 _ e11 r11 => ⟨_, rfl, ne_pair r11 ((((r7.ex e8).ex e9).ex e10).ex e11) ⟨_, rfl, iteNS rfl ?_⟩⟩⟩
        have ec := ((e8.trans e9).trans e10).trans e11
        have k11 := Kp.trans k7 ec.kp
        have b11 := b7.ex ec
        have r7 := r7.ex ec
        have a11 := k11 _ _ a5 sm
        have hp11 := hp5.kp b5 k11
        clear e11 r11 rb e10 e9 r9 ra e8 ec k7 b7 e7 hp6 k6 b6
        have fin : ∀ H12 p' q', Kp m H11 H12 → BagAt H12 m (1 + 12 * j + 10 + 1) → RPair H12 p' q' → Sz 100 q' → rAppend (.ref S) [.ref p'] H12 (fun _ H13 => LapP l m S H1 (j + 1) [some (.ref l), v1, some (.ref m), some (.ref S), some (.int (0 + (j : Int))), some (.int u), some (.int d), some (.ref px), v8, v9] H13) := fun H12 p' q' k12 b12 r12 z12 => by
          have a12 := k12 _ _ a11 sm
          refine ⟨S, ps, .ref p', rfl, rfl, a12, by rw [lp5]; exact len_line (by omega), (Kp.grow e5 (Kp.trans k11 k12) hm).mut hS1, (BagAt.mut b12 sm).mono (by omega), ⟨_, _, _, _, _, _, _, rfl⟩, ps ++ [.ref p'], qs ++ [q'], upd_same, ((hp11.kp b11 k12).st a12).app (.one (RPair.st a12 r12)), by rw [List.length_append, lp5]; rfl, fun q h => ?_⟩
          rcases List.mem_append.mp h with h | h
          · exact z5 q h
          · rw [List.mem_singleton.mp h]
            exact z12
        refine ⟨_, rfl, .inl ⟨rfl, ps, SqL.of a11⟩, _, rfl, m, 4, 1 + 12 * j + 10, rfl, by decide, by decide, b11, by omega, fun r' H12 r0' r4 k12 b12 => ⟨_, _, rfl, rfl, _, rfl, ?_⟩⟩
        by_cases rp : 0 < r'
        · rw [decide_eq_true rp]
          exact iteT (iteT ⟨_, rfl, fin _ _ _ k12 b12 (r7.kp b11 k12) zu⟩)
        · rw [decide_eq_false rp]
          refine iteF ⟨_, rfl, (by show 0 ≤ sizeLine; decide), fun z hz => ?_⟩
          obtain ⟨ds, dd, dn, sd, s2⟩ := ((hp11.kp b11 k12).ex (Ex.new (o := .lst []) hz)).dp
          refine ⟨_, _, .lst (SqL.of (Ex.new hz _ _ (k12 _ _ a11 sm))) dd, .lst (SqL.of upd_same) .nil, by rw [SeqAt.shaped, sd, decide_eq_true (show (PyData.list ds).depth ≤ 64 by omega)]; rfl, rfl, _, rfl, ?_⟩
          rw [eqv_nil]
          have kz := Kp.trans k12 (Ex.new (o := .lst []) hz).kp
          have bz := b12.ex (Ex.new (o := .lst []) hz)
          by_cases dz : ds = []
          · rw [decide_eq_true dz]
            exact iteT ⟨_, rfl, fin _ _ _ kz bz (r7.kp b11 kz) zu⟩
          · rw [decide_eq_false dz]
            have pz : 0 < ps.length := by
              rcases Nat.eq_zero_or_pos ps.length with h | h
              · exact absurd (dn.mpr (List.eq_nil_of_length_eq_zero h)) dz
              · exact h
            obtain ⟨q0, x0, hq0, ex0, r0⟩ := hp11.at (List.getElem?_eq_getElem pz)
            refine iteF ⟨_, rfl, S, ps, 0, .ref x0, rfl, rfl, SqL.of (kz _ _ a11 sm), at_of (j := 0) rfl ?_, fin _ _ _ kz bz (r0.kp b11 kz) (z5 _ hq0)⟩
            rw [← ex0]
            exact List.getElem?_eq_getElem pz
      · obtain ⟨e5, b5, ⟨v1, v4, v5, v6, v7, v8, v9, eσ⟩, ps, qs, a5, hp5, lp5, z5⟩ := p
        subst eσ
        have lp1 : 0 < ps.length := by omega
        have lp6 : ps.length ≤ 6 := by omega
        obtain ⟨q0, x0, hq0, ex0, r0⟩ := hp5.at (List.getElem?_eq_getElem lp1)
        have at0 : atI ps 0 = some (.ref x0) := by rw [← ex0]; exact at_of (j := 0) rfl (List.getElem?_eq_getElem lp1)
        obtain ⟨vl, atl, el⟩ := at_last lp1
        obtain ⟨ql, xl, hql, exl, rl⟩ := hp5.at el
        subst exl
        refine ⟨_, rfl, S, ps, 0, _, rfl, rfl, SqL.of a5, at0, .inr (.inl ⟨x0, _, 0, _, rfl, rfl, r0.sq, ix0, _, rfl, ?_⟩)⟩
        refine ⟨_, rfl, S, ps, 0, _, rfl, rfl, SqL.of a5, at0, .inr (.inl ⟨x0, _, 1, _, rfl, rfl, r0.sq, ix1, (by show 2 ≤ sizeLine; decide), fun po hpo => ?_⟩)⟩
        have ro : RPair (upd H5 po (.tup [.int (-q0.num), .int q0.den])) po (-q0) := by
          show _ = some (HO.tup [.int (-q0).num, .int ((-q0).den : Nat)])
          rw [Rat.neg_num, Rat.neg_den]
          exact upd_same
        have e6 : Ex H5 (upd H5 po (.tup [.int (-q0.num), .int q0.den])) := Ex.new hpo
        generalize upd H5 po (.tup [.int (-q0.num), .int q0.den]) = H6 at ro e6 ⊢
        refine ⟨_, rfl, _, rfl, (by show 2 ≤ sizeLine; decide), fun pz hpz => ⟨(by show 2 ≤ sizeLine; decide), fun L0 hL0 => ?_⟩⟩
        have e7 : Ex H6 (upd H6 pz (.tup [.int 0, .int 1])) := Ex.new hpz
        have rz : RPair (upd H6 pz (.tup [.int 0, .int 1])) pz 0 := upd_same
        generalize upd H6 pz (.tup [.int 0, .int 1]) = H7 at e7 rz hL0 ⊢
        have e8 : Ex H7 (upd H7 L0 (.lst [.ref po, .ref pz])) := Ex.new hL0
        have a8 : upd H7 L0 (.lst [.ref po, .ref pz]) L0 = some (.lst [.ref po, .ref pz]) := upd_same
        generalize upd H7 L0 (.lst [.ref po, .ref pz]) = H8 at e8 a8 ⊢
        have e58 := (e6.trans e7).trans e8
        refine ⟨S, L0, ps, _, rfl, rfl, e58 _ _ a5, a8, (by show ps.length + 2 ≤ sizeLine; exact Nat.le_trans (by omega : ps.length + 2 ≤ 100) (by decide)), fun L hL => ?_⟩
        have e9 : Ex H8 (upd H8 L (.lst (ps ++ [.ref po, .ref pz]))) := Ex.new hL
        have a9 : upd H8 L (.lst (ps ++ [.ref po, .ref pz])) L = some (.lst (ps ++ [.ref po, .ref pz])) := upd_same
        have lm : L ≠ m := (b5.ex e58).free hL
        generalize upd H8 L (.lst (ps ++ [.ref po, .ref pz])) = H9 at e9 a9 ⊢
        have e59 := e58.trans e9
        have b9 := b5.ex e59
        have hp9 : PairsAt H9 (ps ++ [.ref po, .ref pz]) (qs ++ [-q0, 0]) := (hp5.ex e59).app ((PairsAt.one (((ro.ex e7).ex e8).ex e9)).app (.one ((rz.ex e8).ex e9)))
        have z9 : ∀ q ∈ qs ++ [-q0, 0], Sz 100 q := fun q h => by
          rcases List.mem_append.mp h with h | h
          · exact z5 q h
          · rcases List.mem_cons.mp h with h | h
            · rw [h]
              exact sz_neg (z5 _ hq0)
            · rw [List.mem_singleton.mp h]
              exact ⟨by decide, by decide⟩
        have a5 := e59 _ _ a5
        have r0 := r0.ex e59
        have rl := rl.ex e59
        have e59' := Ex.trans e5 e59
        have hp5 := hp5.ex e59
        clear e6 e7 e8 e9 e58 e59 a8 hL hL0 hpz hpo ro rz b5 e5
        refine ⟨L, rfl, ⟨_, SqL.of a9⟩, for_list (K := K) (a := L) (xs := ps ++ [.ref po, .ref pz]) (FigP l m S H9 200) ⟨Kp.rfl, b9.mono (by omega), _, _, _, _, _, _, _, rfl⟩ (fun i σ H' _ p => SqL.of (p.1 _ _ a9 lm)) (fun i x σ H' hi p => ?_) fun σ H' p => ?_⟩
        · obtain ⟨k10, b10, v1, v4, v5, v6, v7, v8, v9, eσ⟩ := p
          subst eσ
          obtain ⟨qy, py, hqy, ex, ry⟩ := hp9.at hi
          subst ex
          have i8 : i < 8 := by
            have := (List.getElem?_eq_some_iff.mp hi).1
            rw [List.length_append] at this
            simp at this
            omega
          have zy := z9 _ hqy
          refine ⟨_, rfl, _, rfl, S, ps, 0, _, rfl, rfl, SqL.of (k10 _ _ a5 sm), at0, _, rfl, m, x0, py, 200 + 6 * i, q0, qy, rfl, b10, by omega, r0.kp b9 k10, ry.kp b9 k10, z5 _ hq0, zy, fun H11 k11 b11 => ⟨_, rfl, iteF ?_⟩⟩
          have k11 := Kp.trans k10 k11
          refine ⟨_, rfl, _, rfl, _, rfl, _, rfl, S, ps, -1, _, rfl, rfl, SqL.of (k11 _ _ a5 sm), atl, m, py, xl, 200 + 6 * i + 2, qy, ql, rfl, b11, by omega, ry.kp b9 k11, rl.kp b9 k11, zy, z5 _ hql, fun H12 k12 b12 => ⟨_, rfl, iteF ?_⟩⟩
          have k12 := Kp.trans k11 k12
          refine ⟨_, rfl, _, rfl, m, py, 200 + 6 * i + 2 + 2, qy, rfl, b12, by omega, ry.kp b9 k12, zy, fun H13 k13 b13 => ⟨_, rfl, iteF ?_⟩⟩
          exact ⟨Kp.trans k12 k13, b13.mono (by omega), _, _, _, _, _, _, _, rfl⟩
        · obtain ⟨k10, b10, v1, v4, v5, v6, v7, v8, v9, eσ⟩ := p
          subst eσ
          rw [List.length_append] at b10
          have hp10 := hp5.kp b9 k10
          refine ⟨_, rfl, _, rfl, m, S, ps, qs, 200 + 6 * 8, rfl, b10.mono (by simp; omega), k10 _ _ a5 sm, sm, hp10.1, hp10.2, z5, by rw [← hp10.1]; exact lp1, by rw [← hp10.1]; exact lp6, by decide, fun H11 k11 b11 => ⟨_, rfl, iteF ?_⟩⟩
          exact ⟨Ex.trans e1 (Kp.grow e59' (Kp.trans k10 k11) hm), _, _, _, _, _, _, _, _, _, rfl⟩
    · obtain ⟨e1, v1, v2, v3, v4, v5, v6, v7, v8, v9, eσ⟩ := p
      subst eσ
      clear hl hn
      -- kinds by names
      obtain ⟨wh, rt, ty, wr⟩ := T.num (H := H1) (.inl ⟨3, rfl, rfl⟩ : NumAt C H1 (.int 3) ((3 : Int) : Rat))
      refine ⟨rfl, rfl, .int 3, wh, rt, rfl, ty, ?_⟩
      rw [wr]
      refine ⟨_, rfl, rfl, rfl, .int (-1), rfl, .inl ⟨_, .inl ⟨-1, rfl, rfl⟩, sz10 ⟨by decide +kernel, by decide +kernel⟩ (by decide), fun H2 _ => ?_⟩⟩
      rw [show decide (0 ≤ ((-1 : Int) : Rat)) = false by decide +kernel]
      refine fun a da ha hda _ => ⟨a, da, 1, 2, rfl, upd_same, .inl ⟨by decide, small9 (by decide), rfl, ?_⟩⟩
      rw [upd_upd]
      obtain ⟨_, ra⟩ := rat_new (C := C) ha hda (Rat.divInt 1 2)
      generalize upd (upd H2 da (.own a)) a (.ins C da (ratF (Rat.divInt 1 2))) = H3 at ra ⊢
      refine ⟨rfl, rfl, .ref a, rfl, .inl ⟨_, ra.num, sz10 ⟨by decide +kernel, by decide +kernel⟩ (by decide), fun H4 _ => ?_⟩⟩
      rw [show decide (0 ≤ Rat.divInt 1 2 ∧ Rat.divInt 1 2 ≤ 1) = true by decide +kernel]
      refine ⟨(by show 3 ≤ sizeLine; decide), fun q1 hq1 => ⟨(by show 3 ≤ sizeLine; decide), fun q2 hq2 => ⟨_, _, .lst (SqL.of (Ex.new hq2 _ _ upd_same)) (.cons (.bl _) (.cons (.bl _) (.cons (.bl _) .nil))), .lst (SqL.of upd_same) (.cons (.bl _) (.cons (.bl _) (.cons (.bl _) .nil))), rfl, rfl, _, rfl, ?_⟩⟩⟩
      rw [eqv_tft]
      refine iteF ?_
      generalize upd (upd H4 q1 (.lst [.bl true, .bl false, .bl true])) q2 (.lst [.bl true, .bl false, .bl true]) = H5
      clear hq1 hq2 ra ha hda
      -- below and over by names
      refine fun a da ha hda _ => ⟨a, da, 1, 2, rfl, upd_same, .inl ⟨by decide, small9 (by decide), rfl, ?_⟩⟩
      rw [upd_upd]
      obtain ⟨_, ra⟩ := rat_new (C := C) ha hda (Rat.divInt 1 2)
      generalize upd (upd H5 da (.own a)) a (.ins C da (ratF (Rat.divInt 1 2))) = H6 at ra ⊢
      refine ⟨a, _, _, rfl, ra.choose_spec, rfl, rfl, a, _, _, _, rfl, ra, .inl ⟨1, rfl, rfl⟩, sz10 ⟨by decide +kernel, by decide +kernel⟩ (by decide), sz10 ⟨by decide +kernel, by decide +kernel⟩ (by decide), fun H7 _ => ⟨true, rfl, _, rfl, iteNS (congrArg V.bl (by decide +kernel)) ?_⟩⟩
      clear ra ha hda
      refine fun a da ha hda _ => ⟨a, da, 1, 2, rfl, upd_same, .inl ⟨by decide, small9 (by decide), rfl, ?_⟩⟩
      rw [upd_upd]
      obtain ⟨_, ra⟩ := rat_new (C := C) ha hda (Rat.divInt 1 2)
      generalize upd (upd H7 da (.own a)) a (.ins C da (ratF (Rat.divInt 1 2))) = H8 at ra ⊢
      refine ⟨a, _, _, rfl, ra.choose_spec, rfl, rfl, a, _, _, ((2 : Int) : Rat), rfl, ra, .inl ⟨2, rfl, rfl⟩, sz10 ⟨by decide +kernel, by decide +kernel⟩ (by decide), sz10 ⟨by decide +kernel, by decide +kernel⟩ (by decide), fun _ t9 H9 _ e9 r9 => ?_, fun z => absurd z (by decide +kernel)⟩
      clear ra ha hda
      refine fun a da ha hda _ => ⟨a, da, 1, 4, rfl, upd_same, .inl ⟨by decide, small9 (by decide), rfl, ?_⟩⟩
      rw [upd_upd]
      obtain ⟨e10, rb⟩ := rat_new (C := C) ha hda (Rat.divInt 1 4)
      generalize upd (upd H9 da (.own a)) a (.ins C da (ratF (Rat.divInt 1 4))) = H10 at e10 rb ⊢
      refine use_ne O (r9.ex e10) rb.num ⟨_, rfl, iteNS (by decide +kernel) ?_⟩
      clear r9 rb e10 e9 ha hda
      -- the others by names
      refine ⟨rfl, rfl, .int 7, ((7 : Int) : Rat), rfl, .inl ⟨7, rfl, rfl⟩, fun b H11 _ rb => ?_⟩
      refine use_neC O rb (.inl ⟨7, rfl, rfl⟩) ⟨_, rfl, iteNS rfl ?_⟩
      clear rb
      refine ⟨(by show 2 ≤ sizeLine; decide), fun l1 hl1 => ⟨rfl, rfl, l1, _, _, 10, rfl, .inl (SqL.of upd_same), nums2 1 2, fun q h => ?_, by decide, by decide, by decide, fun t H12 _ e12 r12 => ?_⟩⟩
      · rcases List.mem_cons.mp h with h | h
        · rw [h]
          exact ⟨by decide +kernel, by decide +kernel⟩
        · rw [List.mem_singleton.mp h]
          exact ⟨by decide +kernel, by decide +kernel⟩
      have z21 : ∀ (i j : Int), i.natAbs < 10 → j.natAbs < 10 → ∀ q ∈ [((i : Int) : Rat), ((j : Int) : Rat)], Sz 9000 q := fun i j hi hj q h => by
        rcases List.mem_cons.mp h with h | h
        · rw [h]
          exact sz10 ⟨by rw [Rat.num_intCast]; omega, by rw [Rat.den_intCast]; decide⟩ (by decide)
        · rw [List.mem_singleton.mp h]
          exact sz10 ⟨by rw [Rat.num_intCast]; omega, by rw [Rat.den_intCast]; decide⟩ (by decide)
      refine ⟨(by show 2 ≤ sizeLine; decide), fun l2 hl2 => ⟨rfl, rfl, l2, _, _, rfl, .inl (SqL.of upd_same), nums2 2 1, by decide, by decide, z21 2 1 (by decide) (by decide), fun H13 e13 => ?_⟩⟩
      refine ⟨(by show 2 ≤ sizeLine; decide), fun l3 hl3 => ⟨rfl, rfl, l3, _, _, rfl, .inr (SqT.of upd_same), nums2 1 2, by decide, by decide, z21 1 2 (by decide) (by decide), fun H14 e14 => ?_⟩⟩
      rw [show ([((2 : Int) : Rat), ((1 : Int) : Rat)].length - 1) = 1 from rfl, show ([((1 : Int) : Rat), ((2 : Int) : Rat)].length - 1) = 1 from rfl, show leastTo [((2 : Int) : Rat), ((1 : Int) : Rat)] 1 = 1 by decide +kernel, show leastTo ([((1 : Int) : Rat), ((2 : Int) : Rat)].map fun q => -q) 1 = 1 by decide +kernel]
      have r14 := ((((r12.ex (Ex.new (o := .lst [.int 2, .int 1]) hl2)).ex e13).ex (Ex.new (o := .tup [.int 1, .int 2]) hl3)).ex e14)
      rw [show ([((1 : Int) : Rat), ((2 : Int) : Rat)].sum) = ((3 : Int) : Rat) by decide +kernel] at r14
      refine ⟨(by show 3 ≤ sizeLine; decide), fun q1 hq1 => ⟨(by show 3 ≤ sizeLine; decide), fun q2 hq2 => ⟨⟨q1, q2, _, _, rfl, rfl, Ex.new hq2 _ _ upd_same, upd_same, .cons (.inr ⟨t, 3, rfl, rfl, (r14.ex (Ex.new hq1)).ex (Ex.new hq2)⟩) (.cons (.inl ⟨rfl, rfl, by decide⟩) (.cons (.inl ⟨rfl, rfl, by decide⟩) .nil))⟩, fun H15 _ => ⟨_, rfl, iteF ?_⟩⟩⟩⟩
      clear r14 r12 e12 e13 e14 hl1 hl2 hl3 hq1 hq2 z21
      -- no numbers; the defaults; a sign below
      refine ⟨(by show 0 ≤ sizeLine; decide), fun l4 hl4 => ⟨l4, [], [], 1, rfl, .inl (SqL.of upd_same), ⟨rfl, fun i v q a => (by simp at a)⟩, (fun q h => by cases h), by decide, by decide, by decide, fun t5 H16 _ _ r16 => ⟨t5, _, rfl, r16, fun p17 H17 _ _ r17 => ⟨(by show 2 ≤ sizeLine; decide), fun pz hpz => ?_⟩⟩⟩⟩
      have rz : RPair (upd H17 pz (.tup [.int 0, .int 1])) pz 0 := upd_same
      refine eq_pair (r17.ex (Ex.new hpz)) rz ⟨_, rfl, ?_⟩
      rw [decide_eq_true (show ([] : List Rat).sum = 0 from rfl)]
      refine iteT ?_
      generalize upd H17 pz (.tup [.int 0, .int 1]) = H18
      clear r17 r16 hl4 hpz rz
      refine fun a da ha hda _ => ⟨a, da, 4, 1, rfl, upd_same, .inl ⟨by decide, small9 (by decide), rfl, ?_⟩⟩
      rw [upd_upd]
      obtain ⟨_, ra⟩ := rat_new (C := C) ha hda (Rat.divInt 4 1)
      generalize upd (upd H18 da (.own a)) a (.ins C da (ratF (Rat.divInt 4 1))) = H19 at ra ⊢
      refine ⟨a, _, _, rfl, ra.choose_spec, a, _, rfl, ra, rfl, _, rfl, ?_⟩
      rw [show decide (V.int ((Rat.divInt 4 1).den : Nat) = V.int 1) = true from decide_eq_true (congrArg V.int (by decide +kernel))]
      refine iteT ?_
      clear ra ha hda
      refine ⟨_, rfl, rfl, rfl, fun a da ha hda _ => ⟨a, da, 6, -4, rfl, upd_same, .inl ⟨by decide, small9 (by decide), rfl, ?_⟩⟩⟩
      rw [upd_upd]
      obtain ⟨_, ra⟩ := rat_new (C := C) ha hda (Rat.divInt 6 (-4))
      generalize upd (upd H19 da (.own a)) a (.ins C da (ratF (Rat.divInt 6 (-4)))) = H20 at ra ⊢
      refine ⟨a, _, rfl, ra, fun p21 H21 _ _ r21 => ⟨_, rfl, (by show 2 ≤ sizeLine; decide), fun pz hpz => ?_⟩⟩
      have rz : RPair (upd H21 pz (.tup [.int (-3), .int 2])) pz (Rat.divInt 6 (-4)) := by
        show _ = some (HO.tup [.int (Rat.divInt 6 (-4)).num, .int ((Rat.divInt 6 (-4)).den : Nat)])
        rw [show (Rat.divInt 6 (-4)).num = -3 by decide +kernel, show (Rat.divInt 6 (-4)).den = 2 by decide +kernel]
        exact upd_same
      refine eq_pair (r21.ex (Ex.new hpz)) rz ?_
      rw [decide_eq_true rfl]
      exact k _
/-! ### the head -/
def fn0 : List Df := [⟨gAd "law", "law", "law", s_law, []⟩, ⟨gAd "is_whole", "is_whole", "is_whole", s_is_whole, []⟩, ⟨gAd "is_number", "is_number", "is_number", s_is_number, []⟩, ⟨gAd "is_amount", "is_amount", "is_amount", s_is_amount, []⟩, ⟨gAd "is_share", "is_share", "is_share", s_is_share, []⟩, ⟨gAd "as_ratio", "as_ratio", "as_ratio", s_as_ratio, []⟩, ⟨gAd "is_list", "is_list", "is_list", s_is_list, []⟩, ⟨gAd "_check_numbers", "_check_numbers", "_check_numbers", s__check_numbers, []⟩, ⟨gAd "_check_some_numbers", "_check_some_numbers", "_check_some_numbers", s__check_some_numbers, []⟩, ⟨gAd "is_below", "is_below", "is_below", s_is_below, []⟩, ⟨gAd "common_bottom", "common_bottom", "common_bottom", s_common_bottom, []⟩, ⟨gAd "total", "total", "total", s_total, []⟩]
def fn1 : List Df := [⟨gAd "least", "least", "least", s_least, []⟩, ⟨gAd "greatest", "greatest", "greatest", s_greatest, []⟩, ⟨gAd "_law_cell", "_law_cell", "_law_cell", s__law_cell, []⟩, ⟨gAd "_law_bag", "_law_bag", "_law_bag", s__law_bag, []⟩, ⟨gAd "_law_take", "_law_take", "_law_take", s__law_take, []⟩, ⟨gAd "_law_frac", "_law_frac", "_law_frac", s__law_frac, []⟩, ⟨gAd "_law_plus", "_law_plus", "_law_plus", s__law_plus, []⟩, ⟨gAd "_law_minus", "_law_minus", "_law_minus", s__law_minus, []⟩, ⟨gAd "_law_times", "_law_times", "_law_times", s__law_times, []⟩, ⟨gAd "_law_over", "_law_over", "_law_over", s__law_over, []⟩, ⟨gAd "_law_less", "_law_less", "_law_less", s__law_less, []⟩, ⟨gAd "_law_told", "_law_told", "_law_told", s__law_told, []⟩]
def fn2 : List Df := [⟨gAd "_law_whole", "_law_whole", "_law_whole", s__law_whole, []⟩, ⟨gAd "_law_pair", "_law_pair", "_law_pair", s__law_pair, []⟩, ⟨gAd "_law_made", "_law_made", "_law_made", s__law_made, []⟩, ⟨gAd "_law_two_right", "_law_two_right", "_law_two_right", s__law_two_right, []⟩, ⟨gAd "_law_kinds_right", "_law_kinds_right", "_law_kinds_right", s__law_kinds_right, []⟩, ⟨gAd "_law_lists_right", "_law_lists_right", "_law_lists_right", s__law_lists_right, []⟩, ⟨mAd "Ratio" "__init__", "__init__", "Ratio.__init__", s_Ratio_init, [.int 1]⟩, ⟨mAd "Ratio" "__add__", "__add__", "Ratio.__add__", s_Ratio_add, []⟩, ⟨mAd "Ratio" "__sub__", "__sub__", "Ratio.__sub__", s_Ratio_sub, []⟩, ⟨mAd "Ratio" "__mul__", "__mul__", "Ratio.__mul__", s_Ratio_mul, []⟩, ⟨mAd "Ratio" "__neg__", "__neg__", "Ratio.__neg__", s_Ratio_neg, []⟩, ⟨mAd "Ratio" "__eq__", "__eq__", "Ratio.__eq__", s_Ratio_eq, []⟩]
def fn3 : List Df := [⟨mAd "Ratio" "below", "below", "Ratio.below", s_Ratio_below, []⟩, ⟨mAd "Ratio" "over", "over", "Ratio.over", s_Ratio_over, []⟩, ⟨rAd "property" "Ratio" "top", "top", "Ratio.top", s_Ratio_top, []⟩, ⟨rAd "property" "Ratio" "bottom", "bottom", "Ratio.bottom", s_Ratio_bottom, []⟩]
def fn : List Df := fn0 ++ (fn1 ++ (fn2 ++ (fn3)))
def cs0 : List (Fg → Bool) := [cGlo "law", cGlo "is_whole", cGlo "is_number", cGlo "is_amount", cGlo "is_share", cGlo "as_ratio", cGlo "is_list", cGlo "_check_numbers", cGlo "_check_some_numbers", cGlo "is_below", cGlo "common_bottom", cGlo "total"]
def cs1 : List (Fg → Bool) := [cGlo "least", cGlo "greatest", cGlo "_law_cell", cGlo "_law_bag", cGlo "_law_take", cGlo "_law_frac", cGlo "_law_plus", cGlo "_law_minus", cGlo "_law_times", cGlo "_law_over", cGlo "_law_less", cGlo "_law_told"]
def cs2 : List (Fg → Bool) := [cGlo "_law_whole", cGlo "_law_pair", cGlo "_law_made", cGlo "_law_two_right", cGlo "_law_kinds_right", cGlo "_law_lists_right", cGlo "Ratio", cGlo "ByZero", cFree "isinstance", cFree "int", cFree "bool", cFree "list"]
def cs3 : List (Fg → Bool) := [cFree "tuple", cFree "all", cFree "len", cFree "sum", cFree "range", cFree "max", cFree "abs", cFree "repr", cFree "str", cFree "enumerate", cFree "min", cBlt "gcd" "math.gcd"]
def cs4 : List (Fg → Bool) := [cBlt "lcm" "math.lcm", cCls "Ratio", cMk "Ratio", cProp "Ratio" "top", cProp "Ratio" "bottom", cNo "Ratio" "_top", cNo "Ratio" "_bottom", cMeth "Ratio" "__add__", cMeth "Ratio" "__sub__", cMeth "Ratio" "__mul__", cMeth "Ratio" "__neg__", cMeth "Ratio" "__eq__"]
def cs5 : List (Fg → Bool) := [cMeth "Ratio" "below", cMeth "Ratio" "over", fun K => decide (PySem.W.kitOne K (.type "int") (.ref (gAd "Ratio" K)) = some false), fun K => decide (PySem.W.findIn K (.ref (gAd "Ratio" K)) "__class__" = some (some (.builtin "object.__class__"))), fun K => decide (PySem.W.mroIn K (gAd "Ratio" K) (.type "object") = some true), fun K => decide (PySem.W.kitOne K (.ref (gAd "Ratio" K)) (.type "int") = some false), fun K => decide (PySem.W.kitOne K (.ref (gAd "Ratio" K)) (.type "bool") = some false), fun K => decide (PySem.W.kitOne K (.ref (gAd "Ratio" K)) (.ref (gAd "Ratio" K)) = some true), fun K => decide (PySem.W.selfFirst K (gAd "Ratio" K) = true), fun K => decide (PySem.W.findIn K (.ref (gAd "Ratio" K)) (dunderR "add") = some none), fun K => decide (PySem.W.findIn K (.ref (gAd "Ratio" K)) (dunderR "sub") = some none), fun K => decide (PySem.W.findIn K (.ref (gAd "Ratio" K)) (dunderR "mul") = some none)]
def cs6 : List (Fg → Bool) := [fun K => decide (PySem.W.subIn K (.type "int") (.ref (gAd "Ratio" K)) = some false), fun K => decide (∀ n ∈ ["NoneType", "bool", "str", "list", "tuple", "dict"], PySem.W.subIn K (.type n) (.ref (gAd "Ratio" K)) = some false), fun K => decide (∀ n ∈ ["NoneType", "bool", "str", "list", "tuple", "dict"], PySem.W.kitOne K (.type n) (.ref (gAd "Ratio" K)) = some false), fun K => decide (PySem.W.findIn K (.ref (gAd "Ratio" K)) "__ne__" = some (some (.builtin "object.__ne__"))), fun K => decide (PySem.W.subIn K (.ref (gAd "Ratio" K)) (.type "object") = some true), fun K => decide (PySem.W.excIn K (gAd "ByZero" K) [.type "ValueError", .type "Exception", .type "BaseException", .type "object"] "ValueError.__new__" = true), fun K => decide (PySem.W.keepIn K (.ref (gAd "ByZero" K)) = true), fun K => decide (PySem.W.subIn K (.ref (gAd "ByZero" K)) (.type "BaseException") = some true), fun K => decide (PySem.W.typeIn K (.ref (gAd "ByZero" K)) = some (.type "type")), fun K => decide (PySem.W.exmOne K (.ref (gAd "ByZero" K)) (.ref (gAd "ByZero" K)) = some true)]
def cs : List (Fg → Bool) := cs0 ++ (cs1 ++ (cs2 ++ (cs3 ++ (cs4 ++ (cs5 ++ (cs6))))))
abbrev RR : PySem.W.OpenRow := PySem.W.OpenLaw.row PySem.Challenge.rw_winoften_k02_ratios_reckoned
abbrev hkk : PySem.W.Hook := hook 5 cs fn
def obb (s : PySem.W.SharedT) : Bool × List FnSeen := lookG 5 cs fn (HandSHeadRun.getT s)
theorem ob_eq (s : PySem.W.SharedT) : obb s = hkk.obs s.abs := lookG_eq (HandSHeadRun.getT_eq s)
def loose : List Str := (["__name__", "WinError", "InvalidNumber", "InvalidText", "ByZero", "is_whole", "is_list", "LONGEST_TEXT", "Ratio", "is_number", "is_amount", "is_share", "as_ratio", "is_below", "common_bottom", "total", "least", "greatest", "_is_digits", "_check_numbers"] : List Str) ++ (["_check_some_numbers", "_law_cell", "_law_bag", "_law_take", "_law_frac", "_law_plus", "_law_minus", "_law_times", "_law_over", "_law_less", "_law_told", "_law_whole", "_law_pair", "_law_made", "_law_two_right", "_law_kinds_right", "_law_lists_right"] : List Str)
def seen : List Nat := [0, 41]
def lawAt : Nat := 41
abbrev lawRoom : Nat := 12
theorem run (w : World) : HandSHeadRun.RunEqI RR (PySem.W.view RR.prog seen) hkk obb 6000 loose w := by
  unfold HandSHeadRun.RunEqI seen
  kernel_rfl
/-! ### what the head tells -/
theorem vals_rev {xs : List V} {us : List Value} (r : Vals xs us) : Vals xs.reverse us.reverse := by
  induction r with
  | nil => exact .nil
  | cons h _ ih =>
    rw [List.reverse_cons, List.reverse_cons]
    exact ih.append (.cons h .nil)
/-- whatever an exception is, at some world -/
def CXE : CXT := fun outer H s E u s' => ∃ (P : Program) (w : World), L2.CX P w outer H s E u s'
theorem fn_cxe {P : Program} {w : World} {K : Fg} {mg : Str → Option Value} {base : Heap} {k : Nat} {f : Addr} {fd : FuncData} {ps : List Str} {sp : Sp} (F : FnX P w K mg base k f fd ps sp) : FnOk P w K mg base CXE k f fd ps sp :=
  ⟨F.len, fun A outer s H args us vs Q E hr he hb hv hs => codeAny_mono (F.run A outer s H args us vs Q E hr he hb hv hs) fun r s' h => by
    cases r with
    | error e => exact ⟨P, w, h⟩
    | ok fl =>
      cases fl with
      | ret u => exact h
      | _ => exact h⟩
theorem facts {P : Program} {w : World} {K : Fg} {h : Heap} {mg : Str → Option Value} {f : Addr} (X : K.In h) (G : h.Ns mainGlobals mg) (hfa : mg ("law" : Str) = some (.ref f)) (c : Tells cs fn K) :
    ∃ fd : FuncData, (∀ (s : Shared) (v : Value), BindsTo s fd ⟨[v], []⟩ [("_law_script", v)]) ∧ ∀ base : Heap, K.In base → base.Ns mainGlobals mg → FnOk P w K mg base CXE 12 f fd ["_law_script"] (spLaw K) := by
  obtain ⟨fd_law, F_law⟩ := c.def_ 0 rfl
  obtain ⟨fd_is_whole, F_is_whole⟩ := c.def_ 1 rfl
  obtain ⟨fd_is_number, F_is_number⟩ := c.def_ 2 rfl
  obtain ⟨fd_is_amount, F_is_amount⟩ := c.def_ 3 rfl
  obtain ⟨fd_is_share, F_is_share⟩ := c.def_ 4 rfl
  obtain ⟨fd_as_ratio, F_as_ratio⟩ := c.def_ 5 rfl
  obtain ⟨fd_is_list, F_is_list⟩ := c.def_ 6 rfl
  obtain ⟨fd__check_numbers, F__check_numbers⟩ := c.def_ 7 rfl
  obtain ⟨fd__check_some_numbers, F__check_some_numbers⟩ := c.def_ 8 rfl
  obtain ⟨fd_is_below, F_is_below⟩ := c.def_ 9 rfl
  obtain ⟨fd_common_bottom, F_common_bottom⟩ := c.def_ 10 rfl
  obtain ⟨fd_total, F_total⟩ := c.def_ 11 rfl
  obtain ⟨fd_least, F_least⟩ := c.def_ 12 rfl
  obtain ⟨fd_greatest, F_greatest⟩ := c.def_ 13 rfl
  obtain ⟨fd__law_cell, F__law_cell⟩ := c.def_ 14 rfl
  obtain ⟨fd__law_bag, F__law_bag⟩ := c.def_ 15 rfl
  obtain ⟨fd__law_take, F__law_take⟩ := c.def_ 16 rfl
  obtain ⟨fd__law_frac, F__law_frac⟩ := c.def_ 17 rfl
  obtain ⟨fd__law_plus, F__law_plus⟩ := c.def_ 18 rfl
  obtain ⟨fd__law_minus, F__law_minus⟩ := c.def_ 19 rfl
  obtain ⟨fd__law_times, F__law_times⟩ := c.def_ 20 rfl
  obtain ⟨fd__law_over, F__law_over⟩ := c.def_ 21 rfl
  obtain ⟨fd__law_less, F__law_less⟩ := c.def_ 22 rfl
  obtain ⟨fd__law_told, F__law_told⟩ := c.def_ 23 rfl
  obtain ⟨fd__law_whole, F__law_whole⟩ := c.def_ 24 rfl
  obtain ⟨fd__law_pair, F__law_pair⟩ := c.def_ 25 rfl
  obtain ⟨fd__law_made, F__law_made⟩ := c.def_ 26 rfl
  obtain ⟨fd__law_two_right, F__law_two_right⟩ := c.def_ 27 rfl
  obtain ⟨fd__law_kinds_right, F__law_kinds_right⟩ := c.def_ 28 rfl
  obtain ⟨fd__law_lists_right, F__law_lists_right⟩ := c.def_ 29 rfl
  obtain ⟨fd_Ratio_init, F_Ratio_init⟩ := c.def_ 30 rfl
  obtain ⟨fd_Ratio_add, F_Ratio_add⟩ := c.def_ 31 rfl
  obtain ⟨fd_Ratio_sub, F_Ratio_sub⟩ := c.def_ 32 rfl
  obtain ⟨fd_Ratio_mul, F_Ratio_mul⟩ := c.def_ 33 rfl
  obtain ⟨fd_Ratio_neg, F_Ratio_neg⟩ := c.def_ 34 rfl
  obtain ⟨fd_Ratio_eq, F_Ratio_eq⟩ := c.def_ 35 rfl
  obtain ⟨fd_Ratio_below, F_Ratio_below⟩ := c.def_ 36 rfl
  obtain ⟨fd_Ratio_over, F_Ratio_over⟩ := c.def_ 37 rfl
  obtain ⟨fd_Ratio_top, F_Ratio_top⟩ := c.def_ 38 rfl
  obtain ⟨fd_Ratio_bottom, F_Ratio_bottom⟩ := c.def_ 39 rfl
  have e := hfa.symm.trans (glo_of X G (c.fact 0 rfl))
  cases e
  have b := FunD.bindsA (ps := ["_law_script"]) F_law fun _ _ _ _ _ _ us hl => match us, hl with | [_], _ => rfl
  refine ⟨fd_law, fun s v => b s [v] rfl, fun base _ _ => ?_⟩
  have m_isinstance : mg "isinstance" = none := free_of X G (c.fact 32 rfl)
  have m_int : mg "int" = none := free_of X G (c.fact 33 rfl)
  have m_bool : mg "bool" = none := free_of X G (c.fact 34 rfl)
  have m_list : mg "list" = none := free_of X G (c.fact 35 rfl)
  have m_tuple : mg "tuple" = none := free_of X G (c.fact 36 rfl)
  have m_all : mg "all" = none := free_of X G (c.fact 37 rfl)
  have m_len : mg "len" = none := free_of X G (c.fact 38 rfl)
  have m_sum : mg "sum" = none := free_of X G (c.fact 39 rfl)
  have m_range : mg "range" = none := free_of X G (c.fact 40 rfl)
  have m_max : mg "max" = none := free_of X G (c.fact 41 rfl)
  have m_abs : mg "abs" = none := free_of X G (c.fact 42 rfl)
  have m_repr : mg "repr" = none := free_of X G (c.fact 43 rfl)
  have m_str : mg "str" = none := free_of X G (c.fact 44 rfl)
  have m_enumerate : mg "enumerate" = none := free_of X G (c.fact 45 rfl)
  have m_min : mg "min" = none := free_of X G (c.fact 46 rfl)
  have g_gcd := blt_of X G (x := "gcd") (id := "math.gcd") (c.fact 47 rfl)
  have g_lcm := blt_of X G (x := "lcm") (id := "math.lcm") (c.fact 48 rfl)
  have g_Ratio := glo_of X G (x := "Ratio") (c.fact 30 rfl)
  have cl := cls_of (x := "Ratio") (c.fact 49 rfl)
  have mk := mk_of (x := "Ratio") (c.fact 50 rfl)
  have T : RatC K (gAd "Ratio" K) := ⟨cl, no_of (c.fact 53 rfl), no_of (c.fact 54 rfl), (of_decide_eq_true (c.fact 62 rfl)), (of_decide_eq_true (c.fact 63 rfl)), (of_decide_eq_true (c.fact 64 rfl)), (of_decide_eq_true (c.fact 65 rfl)), (of_decide_eq_true (c.fact 66 rfl)), (of_decide_eq_true (c.fact 67 rfl))⟩
  have O : RatO K (gAd "Ratio" K) := ⟨(of_decide_eq_true (c.fact 72 rfl)), (of_decide_eq_true (c.fact 73 rfl)), (of_decide_eq_true (c.fact 74 rfl))⟩
  have z : ExcC K mg "ByZero" (gAd "ByZero" K) := ⟨(glo_of X G (c.fact 31 rfl)), (of_decide_eq_true (c.fact 77 rfl)), (of_decide_eq_true (c.fact 78 rfl)), (of_decide_eq_true (c.fact 79 rfl)), (of_decide_eq_true (c.fact 80 rfl))⟩
  have c_is_whole : Callee P w K mg base 1 "is_whole" _ (spWhole K (gAd "Ratio" K)) := .of F_is_whole (glo_of X G (c.fact 1 rfl)) (F_is_whole.bindsN fun _ _ _ _ _ _ us hl => match us, hl with | [_], _ => rfl) (ok_is_whole F_is_whole m_isinstance m_int)
  have ri : FnX P w K mg base 2 _ fd_Ratio_init ["self", "top", "bottom"] (spRInit (gAd "Ratio" K) (gAd "ByZero" K)) := ok_Ratio_init F_Ratio_init T m_isinstance m_int g_gcd z
  obtain ⟨ds2, r2, b2⟩ := F_Ratio_init.binds1 (ps := ["self", "top", "bottom"]) 3 1 (fun z => nomatch z) rfl fun _ _ _ _ _ _ _ us its l1 l2 => match us, its, l1, l2 with | [_, _, _], [_], _, _ => ⟨_, rfl, rfl⟩
  obtain ⟨ds1, r1, b1⟩ := F_Ratio_init.binds1 (ps := ["self", "top", "bottom"]) 2 0 (fun z => nomatch z) rfl fun _ _ _ _ _ _ _ us its l1 l2 => match us, its, l1, l2 with | [_, _], [_], _, _ => ⟨_, rfl, rfl⟩
  have k2 : Maker P w K mg base 2 "Ratio" (gAd "Ratio" K) ["self", "top", "bottom"] [] (spRInit (gAd "Ratio" K) (gAd "ByZero" K)) := ⟨_, _, ds2, g_Ratio, mk, b2, r2, ri⟩
  have k1 : Maker P w K mg base 2 "Ratio" (gAd "Ratio" K) ["self", "top", "bottom"] [.int 1] (spRInit (gAd "Ratio" K) (gAd "ByZero" K)) := ⟨_, _, ds1, g_Ratio, mk, b1, r1, ri⟩
  have kbt : MakerK P w K mg base 2 "Ratio" (gAd "Ratio" K) ["self", "top", "bottom"] ["bottom", "top"] (fun vs zs => vs ++ zs.reverse) (spRInit (gAd "Ratio" K) (gAd "ByZero" K)) := ⟨_, _, _, g_Ratio, mk, kbnD F_Ratio_init 1 ["bottom", "top"] (fun vs zs => vs ++ zs.reverse) (fun z => nomatch z) (fun r1 r2 => r1.append (vals_rev r2)) fun _ _ _ _ _ _ _ us its ws l1 l2 l3 => match us, its, ws, l1, l2, l3 with | [_], [_], [_, _], _, _, _ => ⟨_, rfl, rfl⟩, ri⟩
  have ktb : MakerK P w K mg base 2 "Ratio" (gAd "Ratio" K) ["self", "top", "bottom"] ["top", "bottom"] (fun vs zs => vs ++ zs) (spRInit (gAd "Ratio" K) (gAd "ByZero" K)) := ⟨_, _, _, g_Ratio, mk, kbnD F_Ratio_init 1 ["top", "bottom"] (fun vs zs => vs ++ zs) (fun z => nomatch z) (fun r1 r2 => r1.append r2) fun _ _ _ _ _ _ _ us its ws l1 l2 l3 => match us, its, ws, l1, l2, l3 with | [_], [_], [_, _], _, _, _ => ⟨_, rfl, rfl⟩, ri⟩
  have p_top : Getter P w K mg base 1 (gAd "Ratio" K) "top" (spTop (gAd "Ratio" K)) := ⟨_, _, _, cl, prop_of (c.fact 51 rfl), F_Ratio_top.bindsN fun _ _ _ _ _ _ us hl => match us, hl with | [_], _ => rfl, ok_Ratio_top F_Ratio_top T⟩
  have p_bottom : Getter P w K mg base 1 (gAd "Ratio" K) "bottom" (spBottom (gAd "Ratio" K)) := ⟨_, _, _, cl, prop_of (c.fact 52 rfl), F_Ratio_bottom.bindsN fun _ _ _ _ _ _ us hl => match us, hl with | [_], _ => rfl, ok_Ratio_bottom F_Ratio_bottom T⟩
  have c_is_number : Callee P w K mg base 2 "is_number" _ (spNumber K (gAd "Ratio" K)) := .of F_is_number (glo_of X G (c.fact 2 rfl)) (F_is_number.bindsN fun _ _ _ _ _ _ us hl => match us, hl with | [_], _ => rfl) (ok_is_number F_is_number c_is_whole m_isinstance g_Ratio)
  have c_as_ratio : Callee P w K mg base 4 "as_ratio" _ (spAsRatio (gAd "Ratio" K)) := .of F_as_ratio (glo_of X G (c.fact 5 rfl)) (F_as_ratio.bindsN fun _ _ _ _ _ _ us hl => match us, hl with | [_], _ => rfl) (ok_as_ratio F_as_ratio T m_isinstance g_Ratio k1)
  have o_add : SignOk P w K mg base 5 (gAd "Ratio" K) Operator.Add.info.2 (spBin (gAd "Ratio" K) fun q r => q + r) := ⟨_, _, ["self", "other"], ⟨(of_decide_eq_true (c.fact 68 rfl)), (meth_of (c.fact 55 rfl)).at_, (meth_of (c.fact 55 rfl)).fn, (of_decide_eq_true (c.fact 69 rfl)), (of_decide_eq_true (c.fact 72 rfl))⟩, F_Ratio_add.bindsN (fun _ _ _ _ _ _ us hl => match us, hl with | [_, _], _ => rfl), ok_Ratio_add F_Ratio_add T c_is_whole m_isinstance g_Ratio k2⟩
  have o_sub : SignOk P w K mg base 5 (gAd "Ratio" K) Operator.Sub.info.2 (spBin (gAd "Ratio" K) fun q r => q - r) := ⟨_, _, ["self", "other"], ⟨(of_decide_eq_true (c.fact 68 rfl)), (meth_of (c.fact 56 rfl)).at_, (meth_of (c.fact 56 rfl)).fn, (of_decide_eq_true (c.fact 70 rfl)), (of_decide_eq_true (c.fact 72 rfl))⟩, F_Ratio_sub.bindsN (fun _ _ _ _ _ _ us hl => match us, hl with | [_, _], _ => rfl), ok_Ratio_sub F_Ratio_sub T c_is_whole m_isinstance g_Ratio k2⟩
  have o_mul : SignOk P w K mg base 5 (gAd "Ratio" K) Operator.Mult.info.2 (spBin (gAd "Ratio" K) fun q r => q * r) := ⟨_, _, ["self", "other"], ⟨(of_decide_eq_true (c.fact 68 rfl)), (meth_of (c.fact 57 rfl)).at_, (meth_of (c.fact 57 rfl)).fn, (of_decide_eq_true (c.fact 71 rfl)), (of_decide_eq_true (c.fact 72 rfl))⟩, F_Ratio_mul.bindsN (fun _ _ _ _ _ _ us hl => match us, hl with | [_, _], _ => rfl), ok_Ratio_mul F_Ratio_mul T c_is_whole m_isinstance g_Ratio k2⟩
  have o_neg : NegOk P w K mg base 5 (gAd "Ratio" K) (spNeg (gAd "Ratio" K)) := ⟨_, _, ["self"], (meth_of (c.fact 58 rfl)).at_, (meth_of (c.fact 58 rfl)).fn, F_Ratio_neg.bindsN (fun _ _ _ _ _ _ us hl => match us, hl with | [_], _ => rfl), ok_Ratio_neg F_Ratio_neg T k2⟩
  have eq : EqOk P w K mg base 3 (gAd "Ratio" K) (spEqR K (gAd "Ratio" K)) := ⟨⟨_, _, ["self", "other"], (meth_of (c.fact 59 rfl)).at_, (meth_of (c.fact 59 rfl)).fn, F_Ratio_eq.bindsN (fun _ _ _ _ _ _ us hl => match us, hl with | [_, _], _ => rfl), ok_Ratio_eq F_Ratio_eq T c_is_whole m_isinstance g_Ratio⟩, (of_decide_eq_true (c.fact 75 rfl)), (of_decide_eq_true (c.fact 76 rfl))⟩
  have fb2 := ok_Ratio_below (P := P) (w := w) (mg := mg) (base := base) F_Ratio_below T c_is_whole m_isinstance g_Ratio
  have fb := fb2.mono (show 2 ≤ 5 by decide)
  have fo := ok_Ratio_over (P := P) (w := w) (mg := mg) (base := base) (CZ := (gAd "ByZero" K)) F_Ratio_over T c_as_ratio k2 p_top p_bottom
  have m_below : Mthd P w K mg base 5 (gAd "Ratio" K) "below" ["self", "number"] (spBelow (gAd "Ratio" K)) := ⟨_, _, cl, meth_of (c.fact 60 rfl), F_Ratio_below.bindsN (fun _ _ _ _ _ _ us hl => match us, hl with | [_, _], _ => rfl), fb⟩
  have mk_below : MthdK P w K mg base 5 (gAd "Ratio" K) "below" ["self", "number"] ["number"] (fun vs zs => vs ++ zs) (spBelow (gAd "Ratio" K)) := ⟨_, _, _, cl, meth_of (c.fact 60 rfl), kbn_of F_Ratio_below 1 (fun us ws => us ++ ws) (fun r1 r2 => r1.append r2) fun _ _ _ _ _ _ us ws l1 l2 => match us, ws, l1, l2 with | [_], [_], _, _ => rfl, fb⟩
  have m_over : Mthd P w K mg base 5 (gAd "Ratio" K) "over" ["self", "number"] (spOver (gAd "Ratio" K) (gAd "ByZero" K)) := ⟨_, _, cl, meth_of (c.fact 61 rfl), F_Ratio_over.bindsN (fun _ _ _ _ _ _ us hl => match us, hl with | [_, _], _ => rfl), fo⟩
  have mk_over : MthdK P w K mg base 5 (gAd "Ratio" K) "over" ["self", "number"] ["number"] (fun vs zs => vs ++ zs) (spOver (gAd "Ratio" K) (gAd "ByZero" K)) := ⟨_, _, _, cl, meth_of (c.fact 61 rfl), kbn_of F_Ratio_over 1 (fun us ws => us ++ ws) (fun r1 r2 => r1.append r2) fun _ _ _ _ _ _ us ws l1 l2 => match us, ws, l1, l2 with | [_], [_], _, _ => rfl, fo⟩
  have m_below2 : Mthd P w K mg base 2 (gAd "Ratio" K) "below" ["self", "number"] (spBelow (gAd "Ratio" K)) := ⟨_, _, cl, meth_of (c.fact 60 rfl), F_Ratio_below.bindsN (fun _ _ _ _ _ _ us hl => match us, hl with | [_, _], _ => rfl), fb2⟩
  have c_is_below : Callee P w K mg base 3 "is_below" _ (spIsBelow (gAd "Ratio" K)) := .of F_is_below (glo_of X G (c.fact 9 rfl)) (F_is_below.bindsN fun _ _ _ _ _ _ us hl => match us, hl with | [_, _], _ => rfl) (ok_is_below F_is_below T m_isinstance g_Ratio m_below2)
  have c_is_amount : Callee P w K mg base 6 "is_amount" _ (spAmount K (gAd "Ratio" K)) := .of F_is_amount (glo_of X G (c.fact 3 rfl)) (F_is_amount.bindsN fun _ _ _ _ _ _ us hl => match us, hl with | [_], _ => rfl) (ok_is_amount F_is_amount T m_isinstance m_int g_Ratio)
  have c_is_share : Callee P w K mg base 7 "is_share" _ (spShare K (gAd "Ratio" K)) := .of F_is_share (glo_of X G (c.fact 4 rfl)) (F_is_share.bindsN fun _ _ _ _ _ _ us hl => match us, hl with | [_], _ => rfl) (ok_is_share F_is_share T c_is_whole m_isinstance g_Ratio)
  have c_is_list : Callee P w K mg base 1 "is_list" _ (spIsList K) := .of F_is_list (glo_of X G (c.fact 6 rfl)) (F_is_list.bindsN fun _ _ _ _ _ _ us hl => match us, hl with | [_], _ => rfl) (ok_is_list F_is_list m_isinstance m_list m_tuple)
  have c__check_numbers : Callee P w K mg base 4 "_check_numbers" _ (spCheck K (gAd "Ratio" K)) := .of F__check_numbers (glo_of X G (c.fact 7 rfl)) (F__check_numbers.bindsN fun _ _ _ _ _ _ us hl => match us, hl with | [_], _ => rfl) (ok_check_numbers F__check_numbers T c_is_list c_is_number m_all)
  have c__check_some_numbers : Callee P w K mg base 5 "_check_some_numbers" _ (spCheckSome K (gAd "Ratio" K)) := .of F__check_some_numbers (glo_of X G (c.fact 8 rfl)) (F__check_some_numbers.bindsN fun _ _ _ _ _ _ us hl => match us, hl with | [_], _ => rfl) (ok_check_some F__check_some_numbers c__check_numbers m_len)
  have c_common_bottom : Callee P w K mg base 5 "common_bottom" _ (spCommon K (gAd "Ratio" K)) := .of F_common_bottom (glo_of X G (c.fact 10 rfl)) (F_common_bottom.bindsN fun _ _ _ _ _ _ us hl => match us, hl with | [_], _ => rfl) (ok_common_bottom F_common_bottom T m_isinstance g_Ratio g_lcm)
  have c_total : Callee P w K mg base 6 "total" _ (spTotal K (gAd "Ratio" K)) := .of F_total (glo_of X G (c.fact 11 rfl)) (F_total.bindsN fun _ _ _ _ _ _ us hl => match us, hl with | [_], _ => rfl) (ok_total F_total T c_is_list m_isinstance m_int g_Ratio c_common_bottom k2 k1 m_sum)
  have c_least : Callee P w K mg base 6 "least" _ (spLeast K (gAd "Ratio" K)) := .of F_least (glo_of X G (c.fact 12 rfl)) (F_least.bindsN fun _ _ _ _ _ _ us hl => match us, hl with | [_], _ => rfl) (ok_least F_least T c__check_some_numbers c_is_below m_range m_len)
  have c_greatest : Callee P w K mg base 7 "greatest" _ (spGreatest K (gAd "Ratio" K)) := .of F_greatest (glo_of X G (c.fact 13 rfl)) (F_greatest.bindsN fun _ _ _ _ _ _ us hl => match us, hl with | [_], _ => rfl) (ok_greatest F_greatest T c__check_some_numbers c_as_ratio o_neg c_least)
  have ck_is_number : CalleeK P w K mg base 2 "is_number" ["value"] ["value"] (fun _ zs => zs) (spNumber K (gAd "Ratio" K)) := ⟨_, _, _, (glo_of X G (c.fact 2 rfl)), F_is_number.kp, kbn_of F_is_number 0 (fun _ ws => ws) (fun _ r2 => r2) fun _ _ _ _ _ _ us ws l1 l2 => match us, ws, l1, l2 with | [], [_], _, _ => rfl, ok_is_number F_is_number c_is_whole m_isinstance g_Ratio⟩
  have ck_is_amount : CalleeK P w K mg base 6 "is_amount" ["value"] ["value"] (fun _ zs => zs) (spAmount K (gAd "Ratio" K)) := ⟨_, _, _, (glo_of X G (c.fact 3 rfl)), F_is_amount.kp, kbn_of F_is_amount 0 (fun _ ws => ws) (fun _ r2 => r2) fun _ _ _ _ _ _ us ws l1 l2 => match us, ws, l1, l2 with | [], [_], _, _ => rfl, ok_is_amount F_is_amount T m_isinstance m_int g_Ratio⟩
  have ck_is_share : CalleeK P w K mg base 7 "is_share" ["value"] ["value"] (fun _ zs => zs) (spShare K (gAd "Ratio" K)) := ⟨_, _, _, (glo_of X G (c.fact 4 rfl)), F_is_share.kp, kbn_of F_is_share 0 (fun _ ws => ws) (fun _ r2 => r2) fun _ _ _ _ _ _ us ws l1 l2 => match us, ws, l1, l2 with | [], [_], _, _ => rfl, ok_is_share F_is_share T c_is_whole m_isinstance g_Ratio⟩
  have ck_as_ratio : CalleeK P w K mg base 4 "as_ratio" ["number"] ["number"] (fun _ zs => zs) (spAsRatio (gAd "Ratio" K)) := ⟨_, _, _, (glo_of X G (c.fact 5 rfl)), F_as_ratio.kp, kbn_of F_as_ratio 0 (fun _ ws => ws) (fun _ r2 => r2) fun _ _ _ _ _ _ us ws l1 l2 => match us, ws, l1, l2 with | [], [_], _, _ => rfl, ok_as_ratio F_as_ratio T m_isinstance g_Ratio k1⟩
  have ck_total : CalleeK P w K mg base 6 "total" ["numbers"] ["numbers"] (fun _ zs => zs) (spTotal K (gAd "Ratio" K)) := ⟨_, _, _, (glo_of X G (c.fact 11 rfl)), F_total.kp, kbn_of F_total 0 (fun _ ws => ws) (fun _ r2 => r2) fun _ _ _ _ _ _ us ws l1 l2 => match us, ws, l1, l2 with | [], [_], _, _ => rfl, ok_total F_total T c_is_list m_isinstance m_int g_Ratio c_common_bottom k2 k1 m_sum⟩
  have ck_least : CalleeK P w K mg base 6 "least" ["numbers"] ["numbers"] (fun _ zs => zs) (spLeast K (gAd "Ratio" K)) := ⟨_, _, _, (glo_of X G (c.fact 12 rfl)), F_least.kp, kbn_of F_least 0 (fun _ ws => ws) (fun _ r2 => r2) fun _ _ _ _ _ _ us ws l1 l2 => match us, ws, l1, l2 with | [], [_], _, _ => rfl, ok_least F_least T c__check_some_numbers c_is_below m_range m_len⟩
  have ck_greatest : CalleeK P w K mg base 7 "greatest" ["numbers"] ["numbers"] (fun _ zs => zs) (spGreatest K (gAd "Ratio" K)) := ⟨_, _, _, (glo_of X G (c.fact 13 rfl)), F_greatest.kp, kbn_of F_greatest 0 (fun _ ws => ws) (fun _ r2 => r2) fun _ _ _ _ _ _ us ws l1 l2 => match us, ws, l1, l2 with | [], [_], _, _ => rfl, ok_greatest F_greatest T c__check_some_numbers c_as_ratio o_neg c_least⟩
  have c__law_cell : Callee P w K mg base 1 "_law_cell" _ (spCell K) := .of F__law_cell (glo_of X G (c.fact 14 rfl)) (F__law_cell.bindsN fun _ _ _ _ _ _ us hl => match us, hl with | [_, _], _ => rfl) (ok_cell F__law_cell m_len)
  have c__law_bag : Callee P w K mg base 1 "_law_bag" _ spBag := .of F__law_bag (glo_of X G (c.fact 15 rfl)) (F__law_bag.bindsN fun _ _ _ _ _ _ us hl => match us, hl with | [_], _ => rfl) (ok_bag F__law_bag m_max)
  have c__law_take : Callee P w K mg base 1 "_law_take" _ spTake := .of F__law_take (glo_of X G (c.fact 16 rfl)) (F__law_take.bindsN fun _ _ _ _ _ _ us hl => match us, hl with | [_, _], _ => rfl) (ok_take F__law_take)
  have c__law_frac : Callee P w K mg base 1 "_law_frac" _ spFrac := .of F__law_frac (glo_of X G (c.fact 17 rfl)) (F__law_frac.bindsN fun _ _ _ _ _ _ us hl => match us, hl with | [_, _], _ => rfl) (ok_frac F__law_frac m_abs)
  have c__law_plus : Callee P w K mg base 2 "_law_plus" _ (spArith fun q s => q + s) := .of F__law_plus (glo_of X G (c.fact 18 rfl)) (F__law_plus.bindsN fun _ _ _ _ _ _ us hl => match us, hl with | [_, _], _ => rfl) (ok_plus F__law_plus c__law_frac)
  have c__law_minus : Callee P w K mg base 2 "_law_minus" _ (spArith fun q s => q - s) := .of F__law_minus (glo_of X G (c.fact 19 rfl)) (F__law_minus.bindsN fun _ _ _ _ _ _ us hl => match us, hl with | [_, _], _ => rfl) (ok_minus F__law_minus c__law_frac)
  have c__law_times : Callee P w K mg base 2 "_law_times" _ (spArith fun q s => q * s) := .of F__law_times (glo_of X G (c.fact 20 rfl)) (F__law_times.bindsN fun _ _ _ _ _ _ us hl => match us, hl with | [_, _], _ => rfl) (ok_times F__law_times c__law_frac)
  have c__law_over : Callee P w K mg base 2 "_law_over" _ spLawOver := .of F__law_over (glo_of X G (c.fact 21 rfl)) (F__law_over.bindsN fun _ _ _ _ _ _ us hl => match us, hl with | [_, _], _ => rfl) (ok_law_over F__law_over c__law_frac)
  have c__law_less : Callee P w K mg base 1 "_law_less" _ spLess := .of F__law_less (glo_of X G (c.fact 22 rfl)) (F__law_less.bindsN fun _ _ _ _ _ _ us hl => match us, hl with | [_, _], _ => rfl) (ok_less F__law_less)
  have c__law_told : Callee P w K mg base 3 "_law_told" _ (spTold (gAd "Ratio" K)) := .of F__law_told (glo_of X G (c.fact 23 rfl)) (F__law_told.bindsN fun _ _ _ _ _ _ us hl => match us, hl with | [_], _ => rfl) (ok_told F__law_told p_top p_bottom)
  have c__law_whole : Callee P w K mg base 2 "_law_whole" _ spWholeL := .of F__law_whole (glo_of X G (c.fact 24 rfl)) (F__law_whole.bindsN fun _ _ _ _ _ _ us hl => match us, hl with | [_], _ => rfl) (ok_whole F__law_whole c__law_take)
  have c__law_pair : Callee P w K mg base 3 "_law_pair" _ spPairL := .of F__law_pair (glo_of X G (c.fact 25 rfl)) (F__law_pair.bindsN fun _ _ _ _ _ _ us hl => match us, hl with | [_], _ => rfl) (ok_pair F__law_pair c__law_whole)
  have c__law_made : Callee P w K mg base 4 "_law_made" _ (spMadeL (gAd "Ratio" K)) := .of F__law_made (glo_of X G (c.fact 26 rfl)) (F__law_made.bindsN fun _ _ _ _ _ _ us hl => match us, hl with | [_, _], _ => rfl) (ok_made F__law_made c__law_take k2)
  have two : TwoH P w K mg base (gAd "Ratio" K) (gAd "ByZero" K) := ⟨c__law_take, c__law_made, c__law_told, c__law_plus, c__law_minus, c__law_times, c__law_over, c__law_less, k2, k1, o_add, o_sub, o_mul, o_neg, eq, m_below, m_over, z, (of_decide_eq_true (c.fact 81 rfl))⟩
  have c__law_two_right : Callee P w K mg base 7 "_law_two_right" _ (spTwo (gAd "Ratio" K)) := .of F__law_two_right (glo_of X G (c.fact 27 rfl)) (F__law_two_right.bindsN fun _ _ _ _ _ _ us hl => match us, hl with | [_, _, _], _ => rfl) (ok_two F__law_two_right T O two m_repr m_str m_int)
  have c__law_kinds_right : Callee P w K mg base 9 "_law_kinds_right" _ spKinds := .of F__law_kinds_right (glo_of X G (c.fact 28 rfl)) (F__law_kinds_right.bindsN fun _ _ _ _ _ _ us hl => match us, hl with | [_, _], _ => rfl) (ok_kinds F__law_kinds_right T O c__law_take c__law_made c__law_told c_is_number c_as_ratio c_is_amount c_is_share m_repr)
  have c__law_lists_right : Callee P w K mg base 9 "_law_lists_right" _ spLists := .of F__law_lists_right (glo_of X G (c.fact 29 rfl)) (F__law_lists_right.bindsN fun _ _ _ _ _ _ us hl => match us, hl with | [_, _], _ => rfl) (ok_lists F__law_lists_right T O c__law_take c__law_made c__law_told c__law_plus c__law_less c_total c_least c_greatest m_tuple m_list m_enumerate)
  exact fn_cxe (ok_law F_law T O ⟨c__law_cell, c__law_bag, c__law_take, c__law_pair, c__law_frac, c__law_told, c__law_two_right, c__law_kinds_right, c__law_lists_right, c_total, k2, k1, kbt, ktb, ck_is_number, ck_is_amount, ck_is_share, ck_as_ratio, ck_total, ck_least, ck_greatest, mk_below, mk_over, p_bottom, eq⟩ m_range m_max m_min m_len)
end
end PP
open PySem PySem.W PySem.Calls PyProof.Rows
theorem PySem.Challenge.cw_winoften_k02_ratios_reckoned_holds : PySem.Challenge.rw_winoften_k02_ratios_reckoned.Holds := by
  w_on; o_law
  refine HandSHeadRun.head_imp (r := PP.RR) (q := view PP.RR.prog PP.seen) (H := PP.hkk) (ob := PP.obb) (M := 6000) (loose := PP.loose) (d := HandSHeadRun.topDef PP.RR.prog PP.lawAt) (kwd := []) PP.ob_eq
    PP.run (by kernel_rfl) (by kernel_rfl) (by kernel_rfl) (by rfl) (by first | assumption | decide +kernel) (by decide +kernel) ⟨rfl, rfl, rfl, rfl, rfl, by decide +kernel⟩ ?hw ?hc
  case hw => w_witness2
  case hc =>
    refine L2.walk_ofE (l := PySem.Challenge.rw_winoften_k02_ratios_reckoned) (n := 63) (k := PP.lawRoom) (x := "_law_script") (CX := PP.CXE) rfl (by decide) (by kernel_rfl) ⟨rfl, by decide, by decide⟩ ?F fun _ _ _ _ ⟨_, _, _, _, _, _, _, _, _, _, _, _, _, _, z⟩ => z
    intro w mg fa h Y G hmg0
    obtain ⟨K, KX, c⟩ := Y
    have hmg : mg ("law" : PySem.Str) = some (.ref fa) := by
      rw [← (show (HandSHeadRun.topDef PP.RR.prog PP.lawAt).name = ("law" : PySem.Str) by kernel_rfl)]
      exact hmg0
    obtain ⟨fd, hb, hF⟩ := PP.facts (P := PP.RR.prog) (w := w) KX G hmg c
    exact ⟨K, fd, PP.spLaw K, KX, hb, fun H a ns hl _ hS => ⟨a, ns, rfl, hS, Nat.le_trans hl (by decide), fun _ => rfl⟩, hF⟩
