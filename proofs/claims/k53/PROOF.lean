import PyProof.Rows.All
import Wide.All
import OpenK.AllK
import Wide.FinOn
import PyProof.EqAt
import PyProof.EqKinds
import PyProof.TupleCall
import KE.KOpsOwn
import HandS.ForMost
import HandS.WideBits
import HandS.Wide
import HandS.Defaults
import HandS.MakeKw
import HandS.FStr
import HandS.Style
import HandS.NoneIn
import PyProof.InstNe
import HandS.DictComp
import KE.KEqDict
import KE.LtData
import HandS.SortInts
import HandS.Walk
import HandS.More
import HandS.IsInst
import HandS.Text
import KE.GoesEnum
import KE.GoesMore
import HandS.Star
import HandS.RevRange
import HandS.Property
import HandS.Gcd
import HandS.Iter
import HandS.WordsDict
import HandS.TupLe
import HandS.Finally
import HandS.Ends
import HandS.HeadHook1
import HandS.HeadHook2
import HandS.Head0
import HandS.Head1
import HandS.Head2
import KE.KStateDown
import HandS.Head3
import PySem.Challenge.RW_lateledger_k53_whole_needless_and_alike
set_option Elab.async false
set_option linter.all false
set_option maxRecDepth 100000
set_option maxHeartbeats 2000000
/-! A def's promise that is kept where no repr is under way: calls, bodies, own operators by it. -/
namespace GL
open PySem PySem.Spec PyProof.Rows L2

/-- no guard is up -/
def Clr (A : Around) : Prop := A.guards = some []

theorem Clr.down {A : Around} (g : Clr A) (env : Env) : Clr (A.deeper env) := g
theorem Clr.in1 {A : Around} (g : Clr A) : Clr A.in1 := g
theorem Clr.mk {A : Around} (g : Clr A) (C : Addr) (us : List Value) (kw : List (Str × Value)) :
    Clr (A.under (.builtin "type.__call__" ⟨.ref C :: us, kw⟩)) := by
  have e : (Code.builtin "type.__call__" ⟨.ref C :: us, kw⟩).guards = [] := by
    unfold Code.guards
    rw [if_neg]
    intro h
    exact absurd h (by simp [Code.isGuard, guardIds])
  have z : pushGuards (Code.builtin "type.__call__" ⟨.ref C :: us, kw⟩).guards A.guards = some [] := by rw [e]; exact g
  exact z

structure FnG (P : Program) (w : World) (K : PySem.W.Frag) (mg : Str → Option Value) (base : Heap)
    (CX : CXT) (k : Nat) (f : Addr) (fd : FuncData) (ps : List Str) (sp : Sp) : Prop where
  many : ∀ vs H Q E, sp vs H Q E → vs.length = ps.length
  go : ∀ (A : Around) (out : List Env) (s : Shared) (H : Hp) (args : Args) (us : List Value) (vs : List V) (Q : VK) (E : XK),
    Clr A → Room k A → Env0 P w K mg base A out s H → BindsTo s fd args (ps.zip us) → Vals vs us → sp vs H Q E →
    codeAny (model P w) A (.call (.ref f) args) (CR CX out P w H s Q E) s

theorem FnG.of {P w K mg base CX k f fd ps sp} (F : FnOk P w K mg base CX k f fd ps sp) :
    FnG P w K mg base CX k f fd ps sp :=
  ⟨F.len, fun A out s H args us vs Q E _ => F.run A out s H args us vs Q E⟩
theorem FnG.up {P w K mg base CX j k f fd ps sp} (F : FnG P w K mg base CX j f fd ps sp) (h : j ≤ k) :
    FnG P w K mg base CX k f fd ps sp :=
  ⟨F.many, fun A out s H args us vs Q E g hr => F.go A out s H args us vs Q E g (hr.mono h)⟩
theorem FnG.imp {P w K mg base CX k f fd ps sp sp'} (F : FnG P w K mg base CX k f fd ps sp)
    (h : ∀ vs H Q E, sp' vs H Q E → sp vs H Q E) : FnG P w K mg base CX k f fd ps sp' :=
  ⟨fun vs H Q E q => F.many _ _ _ _ (h _ _ _ _ q), fun A out s H args us vs Q E g hr e b r q => F.go A out s H args us vs Q E g hr e b r (h _ _ _ _ q)⟩

section
variable {X : Cx} {CX : CXT} {k : Nat} {f C : Addr} {fd : FuncData} {ps ks : List Str} {sp : Sp} {dvs : List V}
  {ds : List Value} {E : XK}

/-- the end of a call, for the caller -/
theorem back {pins : List (Addr × Obj)} {σ : L2.St} {H : Hp} {s : Shared} {Q : VK} (hx : Passes CX X E) (I : L2.Inv X pins σ H s)
    (r : Result) (s' : Shared) (hq : CR CX X.stack X.prog X.w H s Q E r s') :
    wants (EP X pins σ Q) X.xe r s' := by
  match r, hq with
  | .error e, hq => exact hx pins σ H s e s' I hq
  | .ok (.ret u), hq => exact I.after hq

/-- the callee runs, somewhere below the body where no guard is up -/
theorem run_at {n : Nat} {g1 : List Value → List Value → List Value} {gV : List V → List V → List V} {A : Around} {pins : List (Addr × Obj)}
    {σ : L2.St} {H : Hp} {s : Shared} {Q : VK} {us ws : List Value} {vs zs : List V}
    (g : Clr A) (hr : Room k A) (fr : A.frames = X.A.frames) (F : FnG X.prog X.w X.K X.mg X.base CX k f fd ps sp)
    (hb : KBn X.K fd ps n ks g1 gV) (hx : Passes CX X E) (I : L2.Inv X pins σ H s) (r : Vals vs us) (rz : Vals zs ws)
    (l1 : vs.length = n) (l2 : zs.length = ks.length) (h : sp (gV vs zs) H Q E) :
    wpAny (model X.prog X.w) A (call (.ref f) us (ks.zip ws)) (EP X pins σ Q) X.xe s := by
  have e0 := I.env0
  have e1 : Env0 X.prog X.w X.K X.mg X.base A X.stack s H := ⟨fr.trans e0.frames, e0.mod, e0.bs, e0.bsz, e0.funs, e0.frf, e0.hok, e0.bare⟩
  exact wpAny_call (codeAny_mono (F.go A X.stack s H ⟨us, ks.zip ws⟩ (g1 us ws) (gV vs zs) Q E g hr e1
    (hb.to s us ws I.kIn (r.length.symm.trans l1) (rz.length.symm.trans l2)) (hb.rel r rz) h) (back hx I))
end

/-! what a call's reading asks: the values, the keywords' values, how many there are, the promise -/
def tGo (n m : Nat) (sp : Sp) (gV : List V → List V → List V) (E : XK) (t tk : TA) : TE := fun σ H Q =>
  t σ H fun vs H1 => tk σ H1 fun zs H2 => vs.length = n ∧ zs.length = m ∧ sp (gV vs zs) H2 Q E
def tGoM (C : Addr) (nm : Str) (n m : Nat) (sp : Sp) (gV : List V → List V → List V) (E : XK) (ta : TE) (t tk : TA) : TE := fun σ H Q =>
  ta σ H fun x H1 => ∃ a dx fs, x = .ref a ∧ H1 a = some (.ins C dx fs) ∧ fs.lookup nm = none ∧
    t σ H1 fun vs H2 => tk σ H2 fun zs H3 => vs.length = n ∧ zs.length = m ∧ sp (gV (.ref a :: vs) zs) H3 Q E
def tNew (C : Addr) (n m : Nat) (sp : Sp) (gV : List V → List V → List V) (E : XK) (t tk : TA) : TE := fun σ H Q =>
  t σ H fun vs H1 => tk σ H1 fun zs H2 => vs.length = n ∧ zs.length = m ∧ ∀ x dx, H2 x = none → H2 dx = none → dx ≠ x →
    sp (gV (.ref x :: vs) zs) (upd (upd H2 dx (.own x)) x (.ins C dx [])) (fun v H3 => v = .non ∧ Q (.ref x) H3) E

section
variable {X : Cx} {CX : CXT} {k n : Nat} {f C : Addr} {fd : FuncData} {ps ks : List Str} {sp : Sp} {E : XK} {x m : Str} {p pos apos : Pos}
  {e o : Expr} {es : List Expr} {kws : List Keyword} {ta : TE} {t tk : TA} {g1 : List Value → List Value → List Value} {gV : List V → List V → List V}

/-- f(e, ..; k = v, ..) -/
theorem pe_go (g : Clr X.A) (F : FnG X.prog X.w X.K X.mg X.base CX k f fd ps sp) (hr : Room k X.A) (hg : Gl X x) (hm : X.mg x = some (.ref f))
    (hk : PySem.W.keepIn X.K (.ref f) = true) (hb : KBn X.K fd ps n ks g1 gV) (hx : Passes CX X E) (ha : PA X (e :: es) t) (hw : PK X kws tk)
    (hall : (backToKw pos (keywordEach kws X.env)).all (·.1.isSome) = true := by rfl)
    (hks : (backToKw pos (keywordEach kws X.env)).filterMap (·.1) = ks := by rfl)
    (hdb : (x == ("__debug__" : Str)) = false := by decide)
    (he : starEach (e :: es) X.env = (false, eval e X.env) :: starEach es X.env := by rfl)
    (hpl : ((backTo pos (starEach (e :: es) X.env)).any (·.1) || (backToKw pos (keywordEach kws X.env)).any (·.1.isNone)) = false := by rfl) :
    PE X (.Call (.Name x p) (e :: es) kws pos) (tGo n ks.length sp gV E t tk) := by
  constructor
  intro pins s σ H Q I h
  apply wpAny_Call_Name_kw
  refine ld_glob I hg hm ?_ hdb
  refine PySem.W.callWith_KW (h₀ := X.base) I.ok.mod.kin hk hall (thn (ha.run pos pins s σ H _ I h) ?_) hpl he
  rintro us s1 ⟨vs, H1, I1, r, q⟩
  refine thn (hw.run pos pins s1 σ H1 _ I1 q) ?_
  rintro ws s2 ⟨zs, H2, I2, rz, l1, l2, q2⟩
  rw [hks]
  exact ⟨I2.kIn, run_at g hr rfl F hb hx I2 r rz l1 l2 q2⟩

/-- o.m(e, ..; k = v, ..) -/
theorem pe_goM {pl : Sem Bool} (g : Clr X.A) (he : PE X o ta) (c : Cls X.K C) (hm : Meth X.K C m f) (F : FnG X.prog X.w X.K X.mg X.base CX k f fd ps sp)
    (hr : Room k X.A) (hb : KBn X.K fd ps (n + 1) ks g1 gV) (hx : Passes CX X E) (ha : PA X (e :: es) t) (hw : PK X kws tk)
    (hall : (backToKw pos (keywordEach kws X.env)).all (·.1.isSome) = true := by rfl)
    (hks : (backToKw pos (keywordEach kws X.env)).filterMap (·.1) = ks := by rfl)
    (hst : starEach (e :: es) X.env = (false, eval e X.env) :: starEach es X.env := by rfl)
    (hpl : ((backTo pos (starEach (e :: es) X.env)).any (·.1) || (backToKw pos (keywordEach kws X.env)).any (·.1.isNone)) = false := by rfl)
    (ht : eval (.Call (.Attribute o m apos) (e :: es) kws pos) X.env = (do
      let ov ← eval o X.env
      standAt apos.atName
      let (f, first) ← holding [ov] (getMethod ov m pl)
      callWith pos f first (backTo pos (starEach (e :: es) X.env)) (backToKw pos (keywordEach kws X.env))) := by rfl) :
    PE X (.Call (.Attribute o m apos) (e :: es) kws pos) (tGoM C m n ks.length sp gV E ta t tk) := by
  constructor
  intro pins s σ H Q I h
  refine PySem.W.methodCall_KW (pl := pl) (thn (he.run pins s σ H _ I h) ?_) ht
  rintro u s1 ⟨x, H1, I1, rx, a, dx, fs, rfl, ea, l, q⟩
  obtain rfl : u = Value.ref a := rx
  refine getmeth_ok I1 ea c hm l ?_
  refine PySem.W.callWith_KW (first := [.ref a]) (h₀ := X.base) I.ok.mod.kin hm.kp hall (thn (ha.run pos pins s1 σ H1 _ I1 q) ?_) hpl hst
  rintro us s2 ⟨vs, H2, I2, r, q2⟩
  refine thn (hw.run pos pins s2 σ H2 _ I2 q2) ?_
  rintro ws s3 ⟨zs, H3, I3, rz, l1, l2, q3⟩
  rw [hks]
  exact ⟨I3.kIn, run_at (us := .ref a :: us) (vs := .ref a :: vs) g hr rfl F hb hx I3 (.cons rfl r) rz (congrArg Nat.succ l1) l2 q3⟩

/-- o.m(k = v, ..), o.m() -/
theorem pe_goM0 {pl : Sem Bool} (g : Clr X.A) (he : PE X o ta) (c : Cls X.K C) (hm : Meth X.K C m f) (F : FnG X.prog X.w X.K X.mg X.base CX k f fd ps sp)
    (hr : Room k X.A) (hb : KBn X.K fd ps 1 ks g1 gV) (hx : Passes CX X E) (hw : PK X kws tk)
    (hall : (backToKw pos (keywordEach kws X.env)).all (·.1.isSome) = true := by rfl)
    (hks : (backToKw pos (keywordEach kws X.env)).filterMap (·.1) = ks := by rfl)
    (hpl : ((backTo pos (starEach [] X.env)).any (·.1) || (backToKw pos (keywordEach kws X.env)).any (·.1.isNone)) = false := by rfl)
    (ht : eval (.Call (.Attribute o m apos) [] kws pos) X.env = (do
      let ov ← eval o X.env
      standAt apos.atName
      let (f, first) ← holding [ov] (getMethod ov m pl)
      callWith pos f first (backTo pos (starEach [] X.env)) (backToKw pos (keywordEach kws X.env))) := by rfl) :
    PE X (.Call (.Attribute o m apos) [] kws pos) (tGoM C m 0 ks.length sp gV E ta tNil tk) := by
  constructor
  intro pins s σ H Q I h
  refine PySem.W.methodCall_KW (pl := pl) (thn (he.run pins s σ H _ I h) ?_) ht
  rintro u s1 ⟨x, H1, I1, rx, a, dx, fs, rfl, ea, l, q⟩
  obtain rfl : u = Value.ref a := rx
  refine getmeth_ok I1 ea c hm l ?_
  refine PySem.W.callWith_KW0 (first := [.ref a]) (h₀ := X.base) I.ok.mod.kin hm.kp hall ?_ hpl
  refine thn (hw.run pos pins s1 σ H1 _ I1 q) ?_
  rintro ws s3 ⟨zs, H3, I3, rz, l1, l2, q3⟩
  rw [hks]
  exact ⟨I3.kIn, run_at (us := [.ref a]) (vs := [.ref a]) g hr rfl F hb hx I3 (.cons rfl .nil) rz rfl l2 q3⟩

theorem run_new {pins : List (Addr × Obj)} {σ : L2.St} {H : Hp} {s : Shared} {Q : VK} {us ws : List Value} {vs zs : List V}
    (g : Clr X.A) (M : Mk X.K C f) (F : FnG X.prog X.w X.K X.mg X.base CX k f fd ps sp) (hr : Room (k + 1) X.A) (hb : KBn X.K fd ps (n + 1) ks g1 gV)
    (hx : Passes CX X E) (I : L2.Inv X pins σ H s) (r : Vals vs us) (rz : Vals zs ws) (l1 : vs.length = n) (l2 : zs.length = ks.length)
    (h : ∀ x dx, H x = none → H dx = none → dx ≠ x →
      sp (gV (.ref x :: vs) zs) (upd (upd H dx (.own x)) x (.ins C dx [])) (fun v H2 => v = .non ∧ Q (.ref x) H2) E) :
    wpAny (model X.prog X.w) X.A (call (.ref C) us (ks.zip ws)) (EP X pins σ Q) X.xe s := by
  have hd := I.hok.fresh (Nat.le_refl s.heap.objs.size)
  have hi := I.hok.fresh (Nat.le_succ s.heap.objs.size)
  have hq := h _ _ hi hd (Nat.ne_of_lt (Nat.lt_succ_self s.heap.objs.size))
  have I2 := Inv.made (C := C) I
  have r1 : Vals (V.ref (s.heap.objs.size + 1) :: vs) (Value.ref (s.heap.objs.size + 1) :: us) := .cons rfl r
  have n1 : (Value.ref (s.heap.objs.size + 1) :: us).length = n + 1 := r1.length.symm.trans (congrArg Nat.succ l1)
  have c := F.go _ X.stack _ _ ⟨Value.ref (s.heap.objs.size + 1) :: us, ks.zip ws⟩ _ _ _ E (g.mk C us (ks.zip ws)) (hr.make C us (ks.zip ws))
    (I2.env0.make C us (ks.zip ws)) (hb.to _ _ ws I2.kIn n1 (rz.length.symm.trans l2)) (hb.rel r1 rz) hq
  refine wpAny_call (make_map (f := f) I.kIn M.makes M.init (beq_iff_eq.mp M.fn) (codeAny_mono c ?_))
  intro rr s' hq'
  match rr, hq' with
  | .error er, hq' => exact hx pins σ _ _ er s' I2 hq'
  | .ok (.ret u), hq' =>
    obtain ⟨v, H', I3, rv, rfl, q3⟩ := I2.after hq'
    exact ⟨rv, V.ref (s.heap.objs.size + 1), H', I3, rfl, q3⟩

/-- C(e, ..; k = v, ..) -/
theorem pe_new (g : Clr X.A) (M : Mk X.K C f) (F : FnG X.prog X.w X.K X.mg X.base CX k f fd ps sp) (hr : Room (k + 1) X.A) (hg : Gl X x)
    (hm : X.mg x = some (.ref C)) (hb : KBn X.K fd ps (n + 1) ks g1 gV) (hx : Passes CX X E) (ha : PA X (e :: es) t) (hw : PK X kws tk)
    (hall : (backToKw pos (keywordEach kws X.env)).all (·.1.isSome) = true := by rfl)
    (hks : (backToKw pos (keywordEach kws X.env)).filterMap (·.1) = ks := by rfl)
    (hdb : (x == ("__debug__" : Str)) = false := by decide)
    (he : starEach (e :: es) X.env = (false, eval e X.env) :: starEach es X.env := by rfl)
    (hpl : ((backTo pos (starEach (e :: es) X.env)).any (·.1) || (backToKw pos (keywordEach kws X.env)).any (·.1.isNone)) = false := by rfl) :
    PE X (.Call (.Name x p) (e :: es) kws pos) (tNew C n ks.length sp gV E t tk) := by
  constructor
  intro pins s σ H Q I h
  apply wpAny_Call_Name_kw
  refine ld_glob I hg hm ?_ hdb
  refine PySem.W.callWith_KW (h₀ := X.base) I.ok.mod.kin M.kp hall (thn (ha.run pos pins s σ H _ I h) ?_) hpl he
  rintro us s1 ⟨vs, H1, I1, r, q⟩
  refine thn (hw.run pos pins s1 σ H1 _ I1 q) ?_
  rintro ws s2 ⟨zs, H2, I2, rz, l1, l2, q2⟩
  rw [hks]
  exact ⟨I2.kIn, run_new g M F hr hb hx I2 r rz l1 l2 q2⟩
/-- C(k = v, ..), C() -/
theorem pe_new0 (g : Clr X.A) (M : Mk X.K C f) (F : FnG X.prog X.w X.K X.mg X.base CX k f fd ps sp) (hr : Room (k + 1) X.A) (hg : Gl X x)
    (hm : X.mg x = some (.ref C)) (hb : KBn X.K fd ps 1 ks g1 gV) (hx : Passes CX X E) (hw : PK X kws tk)
    (hall : (backToKw pos (keywordEach kws X.env)).all (·.1.isSome) = true := by rfl)
    (hks : (backToKw pos (keywordEach kws X.env)).filterMap (·.1) = ks := by rfl)
    (hdb : (x == ("__debug__" : Str)) = false := by decide)
    (hpl : ((backTo pos (starEach [] X.env)).any (·.1) || (backToKw pos (keywordEach kws X.env)).any (·.1.isNone)) = false := by rfl) :
    PE X (.Call (.Name x p) [] kws pos) (tNew C 0 ks.length sp gV E tNil tk) := by
  constructor
  intro pins s σ H Q I h
  apply wpAny_Call_Name_kw
  refine ld_glob I hg hm ?_ hdb
  refine PySem.W.callWith_KW0 (h₀ := X.base) I.ok.mod.kin M.kp hall ?_ hpl
  refine thn (hw.run pos pins s σ H _ I h) ?_
  rintro ws s2 ⟨zs, H2, I2, rz, l1, l2, q2⟩
  rw [hks]
  exact ⟨I2.kIn, run_new (us := []) (vs := []) g M F hr hb hx I2 .nil rz rfl l2 q2⟩
end

/-- a def of the text by its body; no guard is up at its entry -/
theorem body_g {CX : CXT} {P : Program} {w : World} {K : PySem.W.Frag} {mg : Str → Option Value} {base : Heap} {k : Nat} {f : Addr} {name qual : Str}
    {params : Arguments} {body : List Stmt} {scope : Scope} {dV kV doc pm cdv ct oc : Value} {an od : Option Addr} {osl : Array (Option Value)}
    {N ps : List Str} {sp : Sp} (lk : K.lookup f = some ⟨oc, od, .func (PySem.W.fnOf name qual params body scope dV kV doc pm an cdv ct), osl⟩)
    (hcd : PySem.W.codeIn K cdv qual = true) (S : FnScope N ps scope) (many : ∀ vs H Q E, sp vs H Q E → vs.length = ps.length)
    (hbody : ∀ (A : Around) (out : List Env) (s : Shared) (H : Hp) (vs : List V) (Q : VK) (E : XK),
      Clr (A.deeper (envOfC qual scope s.heap.objs.size f cdv)) → Room k (A.deeper (envOfC qual scope s.heap.objs.size f cdv)) → sp vs H Q E →
      ∃ t, PSs (cxOf CX P w K mg base N qual scope f cdv A out s H E) body t ∧ t { nx := fun _ H' => Q .non H', rt := Q } (start N vs) H) :
    FnG P w K mg base CX (k + 1) f (PySem.W.fnOf name qual params body scope dV kV doc pm an cdv ct) ps sp := by
  constructor
  · exact many
  intro A out s H args us vs Q E g hr e0 hb r hsp
  have old : ∀ b ob, base.get? b = some ob → s.heap.get? b = some ob := fun b ob z => (e0.bs b ob z).1
  have KX : K.In s.heap := e0.mod.kin.keeps old
  have kinds : ∀ y ∈ ps.zip us, scope.names.lookup y.1 = some .local ∨
      (scope.names.lookup y.1 = some .cell ∧ ((cellsFrom (s.heap.objs.size + 1) scope.names []).lookup y.1).isSome = true) := by
    rintro ⟨nm, v⟩ hy
    exact (S.par nm (List.of_mem_zip hy).1).imp id fun q => ⟨q, PySem.W.cellsFrom_some _ _ _ (.inl q)⟩
  refine codeAny_call_function hr.depth (KX _ _ lk) rfl S.co S.gen rfl (PySem.W.codeRec_of KX hcd) (hb _ _ _ _ ?_)
  refine wpAny_newFunctionEnv_cells S.kind kinds ?_
  rintro env rfl s1 x
  refine ⟨(e0.mod.nolimit.keeps old).keeps x.toInCall.keep, codeAny_func ?_⟩
  obtain ⟨t, ht, hq⟩ := hbody A out s H vs Q E (g.down _) (hr.deeper _) hsp
  have I := inv_start (CX := CX) (E := E) S hr.hd e0 (many _ _ _ _ hsp) r x
  refine wpAny_mono (ht.run [] s1 (start N vs) H _ I hq) ?_ fun er s' z => z
  intro fl s' hs
  have fin : ∀ {σ' : L2.St} {H' : Hp} {v : V} {u : Value}, L2.Inv (cxOf CX P w K mg base N qual scope f cdv A out s H E) [] σ' H' s' → RelV v u → Q v H' →
      CE out P w H s Q u s' := fun J rv q => ⟨_, _, J.os, J.bare, J.base, J.hok, rv, q⟩
  cases fl
  case ret u =>
    rcases hs with ⟨v, σ2, H2, J, rv, q⟩
    exact fin J rv q
  case next =>
    rcases hs with ⟨σ2, H2, J, q⟩
    exact fin (v := .non) (u := .none) J rfl q
  case brk => exact hs.choose_spec.choose_spec.2.elim
  case cont => exact hs.choose_spec.choose_spec.2.elim
end GL

set_option Elab.async false
set_option linter.all false
set_option maxRecDepth 100000
set_option maxHeartbeats 2000000
namespace GL
open PySem PySem.Spec PyProof.Rows L2

/-- a thing of data that is shown: what repr tells of it -/
structure Shows (d : PyData) : Prop where
  ok : d.showable = true
  nd : d.hasDict = false
  fit : d.shown.length ≤ sizeLine
  low : d.depth ≤ 8

def rReprD (K : PySem.W.Frag) : List V → Hp → VK → Prop := fun xs H Q =>
  ∃ a d, xs = [.ref a] ∧ Dp K H (.ref a) d ∧ Shows d ∧ Q (.str d.shown) H
/-- {x!r}, x data -/
def tFmtD (K : PySem.W.Frag) (te : TE) : TE := fun σ H Q => te σ H fun x H1 => ∃ a d, x = .ref a ∧ Dp K H1 (.ref a) d ∧ Shows d ∧ Q (.str d.shown) H1

section
variable {X : Cx} {k : Nat}
theorem call_repr_D (g : Clr X.A) (hu : X.A.units + 64 < cLine) : CallR X (.builtin "repr") (rReprD X.K) := by
  intro pins s σ H vs us Q I r h
  obtain ⟨a, d, rfl, D, W, q⟩ := h
  cases r with
  | cons r1 r2 =>
    cases r2
    cases r1
    obtain ⟨as, z⟩ := Dp.reads I d (.ref a) (.ref a) D rfl
    refine repr_of_reads' z W.ok (PyData.noDict_hsm W.nd) g ?_ (fun _ _ e => e) ?_ W.fit
    · have := W.low; omega
    · intro h' u tk hk
      exact ⟨.str d.shown, H, I.kept hk, ⟨u, rfl⟩, q⟩
theorem pe_fmtD {e : Expr} {te : TE} {pos : Pos} (g : Clr X.A) (hu : X.A.units + 64 < cLine) (he : PE X e te) :
    PE X (.FormattedValue e 114 none pos) (tFmtD X.K te) := by
  constructor
  intro pins s σ H Q I h
  apply wpAny_FormattedValue_repr
  refine thn (he.run pins s σ H _ I h) ?_
  rintro v s1 ⟨x, H1, I1, r1, a, d, rfl, D, W, q⟩
  cases r1
  obtain ⟨as, z⟩ := Dp.reads I1 d (.ref a) (.ref a) D rfl
  refine pyReprObj_of_reads z W.ok (PyData.noDict_hsm W.nd) g (by have := W.low; omega) (fun _ _ e => e) ?_ W.fit
  intro h' u tk hk
  refine wpAny_formatField_str ?_ ?_ W.fit
  · exact ⟨.str d.shown, H1, I1.kept hk, ⟨_, rfl⟩, q⟩
  · exact ⟨.str d.shown, H1, I1.kept hk, ⟨_, rfl⟩, q⟩
end

/-! ### own operators -/
section
variable {X : Cx} {CX : CXT} {k n : Nat} {f C : Addr} {fd : FuncData} {ps : List Str} {sp : Sp} {E : XK}
  {g1 : List Value → List Value → List Value} {gV : List V → List V → List V}

/-- the own def of an operator, its promise at the two (or one) values -/
structure Own (X : Cx) (CX : CXT) (k : Nat) (C : Addr) (nm : Str) (f : Addr) (fd : FuncData) (ps : List Str) (sp : Sp) (n : Nat) (E : XK) : Prop where
  F : FnG X.prog X.w X.K X.mg X.base CX k f fd ps sp
  at_ : PySem.W.findIn X.K (.ref C) nm = some (some (.ref f))
  fn : PySem.W.isFn X.K (.ref f) = true
  bd : KBn X.K fd ps n [] (fun us _ => us) (fun vs _ => vs)
  ps_ : Passes CX X E

/-- the instance, for the library's rules -/
theorem inst {pins : List (Addr × Obj)} {σ : L2.St} {H : Hp} {s : Shared} {a dx : Addr} {fs : List (Str × V)} (I : L2.Inv X pins σ H s)
    (e : H a = some (.ins C dx fs)) : ∃ ox od, PySem.W.InstAt s.heap a ox C od := by
  obtain ⟨mA, O, _⟩ := ins_get I.hok e
  obtain ⟨od, J, _⟩ := O.look
  exact ⟨_, _, J⟩

def rLenO (C : Addr) (sp : Sp) (E : XK) : List V → Hp → VK → Prop := fun xs H Q =>
  ∃ a dx fs, xs = [.ref a] ∧ H a = some (.ins C dx fs) ∧ sp [.ref a] H (fun v H1 => ∃ n : Int, v = .int n ∧ 0 ≤ n ∧ n < 2 ^ 63 ∧ Q (.int n) H1) E
theorem call_len_O (g : Clr X.A) (hr : Room (k + 1) X.A) (W : Own X CX k C "__len__" f fd ps sp 1 E) : CallR X (.builtin "len") (rLenO C sp E) := by
  intro pins s σ H vs us Q I r h
  obtain ⟨a, dx, fs, rfl, ea, h⟩ := h
  cases r with
  | cons r1 r2 =>
    cases r2
    cases r1
    obtain ⟨ox, od, J⟩ := inst I ea
    obtain ⟨m, hF⟩ := I.fr
    refine PySem.W.len_K hF I.ok.mod.kin J W.at_ W.fn ?_
    refine wpAny_mono (run_at (us := [.ref a]) (vs := [.ref a]) (ws := []) (zs := []) g.in1 hr.in1 rfl W.F W.bd W.ps_ I (.cons rfl .nil) .nil rfl rfl h) ?_ fun _ _ z => z
    rintro u s' ⟨v, H1, I1, rv, n, rfl, h0, h1, q⟩
    obtain ⟨t, rfl⟩ := rv
    exact ⟨⟨h0, h1⟩, .int n, H1, I1.tok _, ⟨_, rfl⟩, q⟩

def rReprO (C : Addr) (sp : Sp) (E : XK) : List V → Hp → VK → Prop := fun xs H Q =>
  ∃ a dx fs, xs = [.ref a] ∧ H a = some (.ins C dx fs) ∧ sp [.ref a] H (fun v H1 => ∃ z : Str, v = .str z ∧ Q (.str z) H1) E
theorem call_repr_O (g : Clr X.A) (hr : Room (k + 1) X.A) (W : Own X CX k C "__repr__" f fd ps sp 1 E) : CallR X (.builtin "repr") (rReprO C sp E) := by
  intro pins s σ H vs us Q I r h
  obtain ⟨a, dx, fs, rfl, ea, h⟩ := h
  cases r with
  | cons r1 r2 =>
    cases r2
    cases r1
    obtain ⟨ox, od, J⟩ := inst I ea
    obtain ⟨m, hF⟩ := I.fr
    refine PySem.W.repr_K (by have := hr.un; show X.A.units + 1 < cLine; omega) hF I.ok.mod.kin J W.at_ W.fn ?_
    refine wpAny_mono (run_at (us := [.ref a]) (vs := [.ref a]) (ws := []) (zs := []) g.in1 hr.in1 rfl W.F W.bd W.ps_ I (.cons rfl .nil) .nil rfl rfl h) ?_ fun _ _ z => z
    rintro u s' ⟨v, H1, I1, rv, y, rfl, q⟩
    obtain ⟨t, rfl⟩ := rv
    exact ⟨.str y, H1, I1, ⟨_, rfl⟩, q⟩

/-- what is on the right of an own ==: its type is told, and is no class below the left one's -/
def RightOf (K : PySem.W.Frag) (C : Addr) (H : Hp) (y : V) : Prop :=
  (∃ a dx fs, y = .ref a ∧ H a = some (.ins C dx fs)) ∨ (∃ a xs, y = .ref a ∧ (SqL K H a xs ∨ SqT K H a xs)) ∨ y = .non ∨ (∃ i, y = .int i) ∨ (∃ z, y = .str z)
structure Below (K : PySem.W.Frag) (C : Addr) : Prop where
  l : PySem.W.subIn K (.type "list") (.ref C) = some false
  t : PySem.W.subIn K (.type "tuple") (.ref C) = some false
  n : PySem.W.subIn K (.type "NoneType") (.ref C) = some false
  i : PySem.W.subIn K (.type "int") (.ref C) = some false
  s : PySem.W.subIn K (.type "str") (.ref C) = some false

theorem look_type {M : Model} {h : Heap} {a : Addr} {o : Obj} (e : h.get? a = some o) : PySem.W.Looks M h (typeOf (.ref a)) o.cls := (PySem.W.Looks.ld e).andThen .now
theorem right_type {pins : List (Addr × Obj)} {σ : L2.St} {H : Hp} {s : Shared} {y : V} {u : Value} (I : L2.Inv X pins σ H s) (B : Below X.K C)
    (r : L2.RelV y u) (h : RightOf X.K C H y) : ∃ tb, (∀ M, PySem.W.Looks M s.heap (typeOf u) tb) ∧ PySem.W.notFirst X.K C tb = true := by
  rcases h with ⟨a, dx, fs, rfl, ea⟩ | ⟨a, xs, rfl, hl | ht⟩ | rfl | ⟨i, rfl⟩ | ⟨z, rfl⟩
  · cases r
    obtain ⟨mA, O, _⟩ := ins_get I.hok ea
    obtain ⟨od, J, _⟩ := O.look
    exact ⟨.ref C, fun M => J.type, by simp [PySem.W.notFirst]⟩
  · cases r
    obtain ⟨its, _, ⟨o, nn, ho, hc, _⟩, _⟩ := I.list hl
    exact ⟨.type "list", fun M => hc ▸ look_type ho, by simp [PySem.W.notFirst, B.l]⟩
  · cases r
    obtain ⟨its, _, ⟨o, ho, hc, _⟩, _⟩ := I.tuple ht
    exact ⟨.type "tuple", fun M => hc ▸ look_type ho, by simp [PySem.W.notFirst, B.t]⟩
  · cases r
    exact ⟨.type "NoneType", fun M => .of_pure rfl, by simp [PySem.W.notFirst, B.n]⟩
  · obtain ⟨t, rfl⟩ := r
    exact ⟨.type "int", fun M => .of_pure rfl, by simp [PySem.W.notFirst, B.i]⟩
  · obtain ⟨t, rfl⟩ := r
    exact ⟨.type "str", fun M => .of_pure rfl, by simp [PySem.W.notFirst, B.s]⟩

/-- x == y, x an instance with an own == -/
def rEqO (K : PySem.W.Frag) (C : Addr) (sp : Sp) (E : XK) : R2 := fun x y H Q =>
  ∃ a dx fs, x = .ref a ∧ H a = some (.ins C dx fs) ∧ RightOf K C H y ∧ sp [.ref a, y] H (fun v H1 => ∃ b, v = .bl b ∧ Q (.bl b) H1) E
theorem op_eq_O (g : Clr X.A) (hr : Room k X.A) (W : Own X CX k C "__eq__" f fd ps sp 2 E) (B : Below X.K C) : OpR X (compareOp .Eq) (rEqO X.K C sp E) := by
  intro pins s σ H x y v u Q I rx ry h
  obtain ⟨a, dx, fs, rfl, ea, ho, h⟩ := h
  cases rx
  obtain ⟨ox, od, J⟩ := inst I ea
  obtain ⟨m, hF⟩ := I.fr
  obtain ⟨tb, ht, hn⟩ := right_type I B ry ho
  show wpAny (model X.prog X.w) X.A (richCompare .Eq (.ref a) u) (EP X pins σ Q) X.xe s
  refine PySem.W.cmp_K (op := .Eq) (tb := tb) hr.units0 hF I.ok.mod.kin J (ht _) hn W.at_ W.fn ?_
  refine wpAny_mono (run_at (us := [.ref a, u]) (vs := [.ref a, y]) (ws := []) (zs := []) g hr rfl W.F W.bd W.ps_ I (.cons rfl (.cons ry .nil)) .nil rfl rfl h) ?_ fun _ _ z => z
  rintro w' s' ⟨z, H1, I1, rz, b, rfl, q⟩
  cases rz
  exact ⟨.bl b, H1, I1, rfl, q⟩

/-- what the top tells of a class with an own == and the != of all objects -/
structure EqC (K : PySem.W.Frag) (C f N : Addr) : Prop where
  obj : ∃ nm q bs hd sn sub ab col dd k0 k1 k2 k3 k5 id, K.lookup C = some (excClassObj nm q C N bs [.type "object"] hd sn sub ab col dd k0 k1 k2 k3 k5 id)
  ok : PySem.W.nsOkIn K N = true
  eq : PySem.W.nsIn K N "__eq__" = some (some (.ref f))
  ne : PySem.W.nsIn K N "__ne__" = some none
  fn : PySem.W.typeIn K (.ref f) = some (.type "function")
theorem ns_some {K : PySem.W.Frag} {h : Heap} {N : Addr} {mN : Str → Option Value} {x : Str} {v : Value} (KX : K.In h) (G : h.Ns N mN)
    (e : PySem.W.nsIn K N x = some (some v)) : mN x = some v := by
  obtain ⟨o, es, ep, ho, hd, _, hf⟩ := G
  unfold PySem.W.nsIn at e
  cases q : K.lookup N with
  | none => rw [q] at e; cases e
  | some o2 =>
    have z := (KX _ _ q).symm.trans ho
    cases z
    obtain ⟨c, d, data, sl⟩ := o
    dsimp only at hd
    subst hd
    rw [q] at e
    dsimp only at e
    rw [← hf]
    show findBy _ es x = some v
    unfold findBy
    rw [← Array.find?_toList]
    cases w : es.toList.find? (·.key.isStr x) with
    | none =>
      rw [w] at e
      dsimp only at e
      split at e <;> cases e
    | some en =>
      rw [w] at e
      cases e
      rfl
theorem EqC.there {K : PySem.W.Frag} {h : Heap} {C f N x : Addr} {o : Obj} (W : EqC K C f N) (KX : K.In h) (hx : h.get? x = some o) (hc : o.cls = .ref C) :
    h.OwnEqNoNe x C f "object" [.type "object"] := by
  obtain ⟨nm, q, bs, hd, sn, sub, ab, col, dd, k0, k1, k2, k3, k5, id, l⟩ := W.obj
  have G : h.Ns N (h.nsMap N) := .of_isNs (PySem.W.isNs_of_in KX W.ok)
  have tf := W.fn
  cases e : K.lookup f with
  | none => simp [PySem.W.typeIn, e] at tf
  | some of =>
    have tc : of.cls = .type "function" := by simpa [PySem.W.typeIn, e] using tf
    exact ⟨o, of, nm, q, N, bs, hd, sn, sub, ab, col, dd, k0, k1, k2, k3, k5, id, _, _, hx, hc, KX _ _ l, G, ns_some KX G W.eq, KX _ _ e, tc,
      PySem.F.cmp_object.mro, PySem.F.cmp_object.eq.lookup, PySem.W.ns_none_of KX G W.ne⟩

/-- x != y, two instances of one class with an own == -/
def rNeO (C : Addr) (sp : Sp) (E : XK) : R2 := fun x y H Q =>
  ∃ a dx fs b dy gs, x = .ref a ∧ y = .ref b ∧ H a = some (.ins C dx fs) ∧ H b = some (.ins C dy gs) ∧
    sp [.ref a, .ref b] H (fun v H1 => ∃ c, v = .bl c ∧ Q (.bl (!c)) H1) E
theorem op_ne_O {N : Addr} (g : Clr X.A) (hr : Room (k + 1) X.A) (W : Own X CX k C "__eq__" f fd ps sp 2 E) (T : EqC X.K C f N) :
    OpR X (compareOp .NotEq) (rNeO C sp E) := by
  intro pins s σ H x y v u Q I rx ry h
  obtain ⟨a, dx, fs, b, dy, gs, rfl, rfl, ea, eb, h⟩ := h
  cases rx
  cases ry
  obtain ⟨_, _, _, ha, _⟩ := I.hok a _ ea
  obtain ⟨_, _, _, hb, _⟩ := I.hok b _ eb
  have z := wpAny_mono (run_at (us := [.ref a, .ref b]) (vs := [.ref a, .ref b]) (ws := []) (zs := []) g.in1 hr.in1 rfl W.F W.bd W.ps_ I
    (.cons rfl (.cons rfl .nil)) .nil rfl rfl h) (Q' := fun w' s' => ∃ c, w' = .bool c ∧ EP X pins σ Q (.bool (!c)) s') ?_ fun _ _ z => z
  · have T' := T.there I.kIn ha rfl
    have hu : X.A.units + 1 < cLine := by have := hr.un; omega
    obtain ⟨hp, gg, d, t, os⟩ := s
    exact compareOp_ne_ownEq PySem.F.cmp_object T' hb rfl hu z
  · rintro w' s' ⟨z, H1, I1, rz, c, rfl, q⟩
    cases rz
    exact ⟨c, rfl, .bl (!c), H1, I1, rfl, q⟩

/-- x + y, x an instance with an own +, y a tuple -/
structure AddC (K : PySem.W.Frag) (C : Addr) : Prop where
  first : PySem.W.selfFirst K C = true
  no_r : PySem.W.findIn K (.ref C) (dunderR "add") = some none
  below : PySem.W.subIn K (.type "tuple") (.ref C) = some false
  t1 : PySem.W.findIn K (.type "tuple") (PySem.dunder "add") = some (some (.builtin "tuple.__add__"))
  t2 : PySem.W.findIn K (.type "tuple") (dunderR "add") = some none
theorem add_tuple {prog : Program} {w : World} {A : Around} {E' : Value → Shared → Prop} {s : Shared} {K : PySem.W.Frag} {x C L f : Addr} {h₀ : Heap} {m : Str → Option Value}
    {ox : Obj} {od : Option Obj} {b : Value} {Q : Value → Shared → Prop} (F : Fr h₀ L s.heap m) (X₀ : K.In h₀) (J : PySem.W.InstAt s.heap x ox C od)
    (hb : ∀ M, PySem.W.Looks M s.heap (typeOf b) (.type "tuple")) (T : AddC K C) (hs : PySem.W.findIn K (.ref C) (PySem.dunder "add") = some (some (.ref f)))
    (hf : PySem.W.isFn K (.ref f) = true) (h : wpAny (model prog w) A (call (.ref f) [.ref x, b]) (PySem.W.CmpBack Q) E' s) :
    wpAny (model prog w) A (binaryOp .Add (.ref x) b) Q E' s := by
  have KX := X₀.keeps F.keep
  obtain ⟨cd, rest, hcd, hm⟩ := PySem.W.ksp_first T.first
  have one := PySem.W.ksp_try KX J hs hf h
  obtain ⟨hh, gg, d, tt, os⟩ := s
  have A1 : PySem.W.Looks (model prog w) hh (typeOf (.ref x)) (.ref C) := J.type
  have A2 : PySem.W.Looks (model prog w) hh (typeOf b) (.type "tuple") := hb _
  have A3 : PySem.W.Looks (model prog w) hh (fillsNumberSlot (.ref C) "add") true := PySem.W.fills_K KX hcd hm hs
  have A4 : PySem.W.Looks (model prog w) hh (fillsNumberSlot (.type "tuple") "add") ((Option.isSome (some (Value.builtin "tuple.__add__")) && !isSeqSlot (some (.builtin "tuple.__add__"))) || (Option.isSome (none : Option Value) && !isSeqSlot none)) :=
    PySem.W.ksp_fillsT KX T.t1 T.t2
  have A4' : PySem.W.Looks (model prog w) hh (fillsNumberSlot (.type "tuple") "add") false := by
    have e : ((Option.isSome (some (Value.builtin "tuple.__add__")) && !isSeqSlot (some (.builtin "tuple.__add__"))) || (Option.isSome (none : Option Value) && !isSeqSlot none)) = false := by decide +kernel
    rw [e] at A4
    exact A4
  have ne : (Value.ref C == Value.type "tuple") = false := Bool.eq_false_iff.mpr fun q => by cases beq_iff_eq.mp q
  show wpAny _ _ (binaryOp .Add (.ref x) b) Q E' _
  have hi : Operator.info .Add = ("+", "add") := rfl
  simp only [binaryOp, hi]
  refine wpAny_holding (wpAny_bind ?_)
  unfold binaryOp1
  refine wpAny_bind (A1.at (wpAny_bind (A2.at (wpAny_bind (A3.at ?_)))))
  simp only [ne, Bool.false_eq_true, if_false]
  ksp_lk
  refine wpAny_mono one ?_ fun _ _ e => e
  rintro r s' ⟨v, rfl, hq⟩
  ksp_lk
  exact hq
def rAddO (K : PySem.W.Frag) (C : Addr) (sp : Sp) (E : XK) : R2 := fun x y H Q =>
  ∃ a dx fs b ys, x = .ref a ∧ y = .ref b ∧ H a = some (.ins C dx fs) ∧ SqT K H b ys ∧ sp [.ref a, .ref b] H Q E
theorem op_add_O (g : Clr X.A) (hr : Room k X.A) (W : Own X CX k C (PySem.dunder "add") f fd ps sp 2 E) (T : AddC X.K C)
    (hv : ∀ vs H Q, sp vs H Q E → sp vs H (fun v H1 => (∃ a, v = .ref a) ∧ Q v H1) E) : OpR X (binaryOp .Add) (rAddO X.K C sp E) := by
  intro pins s σ H x y v u Q I rx ry h
  obtain ⟨a, dx, fs, b, ys, rfl, rfl, ea, eb, h⟩ := h
  cases rx
  cases ry
  obtain ⟨ox, od, J⟩ := inst I ea
  obtain ⟨m, hF⟩ := I.fr
  obtain ⟨its, _, ⟨o, ho, hc, _⟩, _⟩ := I.tuple eb
  refine add_tuple hF I.ok.mod.kin J (fun M => hc ▸ look_type ho) T W.at_ W.fn ?_
  refine wpAny_mono (run_at (us := [.ref a, .ref b]) (vs := [.ref a, .ref b]) (ws := []) (zs := []) g hr rfl W.F W.bd W.ps_ I (.cons rfl (.cons rfl .nil)) .nil rfl rfl (hv _ _ _ h)) ?_ fun _ _ z => z
  rintro w' s' ⟨z, H1, I1, rz, ⟨c, rfl⟩, q⟩
  cases rz
  exact ⟨.ref c, H1, I1, rfl, q⟩
end
end GL

set_option Elab.async false
set_option linter.all false
set_option maxRecDepth 100000
set_option maxHeartbeats 2000000
namespace GL
open PySem PySem.Spec PyProof.Rows L2

section
variable {P : Program} {w : World} {K : PySem.W.Frag} {mg : Str → Option Value} {base : Heap}
theorem okG {x qual : Str} {st : Stmt} {f : Addr} {fd : FuncData} {N ps : List Str} {k : Nat} {sp : Sp} (F : Fun K x qual st f fd)
    (S : FnScope N ps (defScope st)) (many : ∀ vs H Q E, sp vs H Q E → vs.length = ps.length)
    (hbody : ∀ (cdv : Value) (A : Around) (out : List Env) (s : Shared) (H : Hp) (vs : List V) (Q : VK) (E : XK),
      Clr (A.deeper (envOfC qual (defScope st) s.heap.objs.size f cdv)) → Room k (A.deeper (envOfC qual (defScope st) s.heap.objs.size f cdv)) → sp vs H Q E →
      ∃ t, PSs (cxOf CX0 P w K mg base N qual (defScope st) f cdv A out s H E).nox (defBody st) t ∧
        t { nx := fun _ H' => Q .non H', rt := Q } (start N vs) H) : FnG P w K mg base CX0 (k + 1) f fd ps sp := by
  obtain ⟨oc, od, kV, doc, pm, an, cdv, ct, osl, rfl, lk, hcd⟩ := F.ex
  refine body_g lk hcd S many ?_
  intro A out s H vs Q E g hr hsp
  obtain ⟨t, h, q⟩ := hbody cdv A out s H vs Q E g hr hsp
  exact ⟨t, h.nox, q⟩
theorem okGD {x qual : Str} {params : Arguments} {body : List Stmt} {scope : Scope} {dvs : List V} {kws : List (Str × V)} {f : Addr} {fd : FuncData}
    {N ps : List Str} {k : Nat} {sp : Sp} (F : FunD K x qual params body scope dvs kws f fd)
    (S : FnScope N ps scope) (many : ∀ vs H Q E, sp vs H Q E → vs.length = ps.length)
    (hbody : ∀ (cdv : Value) (A : Around) (out : List Env) (s : Shared) (H : Hp) (vs : List V) (Q : VK) (E : XK),
      Clr (A.deeper (envOfC qual scope s.heap.objs.size f cdv)) → Room k (A.deeper (envOfC qual scope s.heap.objs.size f cdv)) → sp vs H Q E →
      ∃ t, PSs (cxOf CX0 P w K mg base N qual scope f cdv A out s H E).nox body t ∧
        t { nx := fun _ H' => Q .non H', rt := Q } (start N vs) H) : FnG P w K mg base CX0 (k + 1) f fd ps sp := by
  obtain ⟨oc, od, dV, kV, doc, pm, an, cdv, ct, osl, rfl, lk, hcd, _, _⟩ := F.ex
  refine body_g lk hcd S many ?_
  intro A out s H vs Q E g hr hsp
  obtain ⟨t, h, q⟩ := hbody cdv A out s H vs Q E g hr hsp
  exact ⟨t, h.nox, q⟩

/-- all parameters by place -/
theorem kbPlace {x qual : Str} {st : Stmt} {f : Addr} {fd : FuncData} {ps : List Str} (F : Fun K x qual st f fd)
    (h : ∀ (kV doc pm : Value) (an : Option Addr) (cdv ct : Value) (us : List Value), us.length = ps.length →
      bindArgs (PySem.W.fnOf x qual (defArgs st) (defBody st) (defScope st) .none kV doc pm an cdv ct) ⟨us, []⟩ = pure (ps.zip us)) :
    KBn K fd ps ps.length [] (fun us _ => us) (fun vs _ => vs) := by
  obtain ⟨oc, od, kV, doc, pm, an, cdv, ct, osl, rfl, lk, hcd⟩ := F.ex
  constructor
  · intro s us ws _ l1 _
    exact .of_eq (h kV doc pm an cdv ct us l1)
  · intro vs us zs ws r _
    exact r
/-- some by place, others by name, no defaults -/
theorem kbNames {x qual : Str} {st : Stmt} {f : Addr} {fd : FuncData} {ps : List Str} (F : Fun K x qual st f fd) (n : Nat) (ks : List Str)
    (g : {α : Type} → List α → List α → List α)
    (hrel : ∀ {vs zs : List V} {us ws : List Value}, Vals vs us → Vals zs ws → Vals (g vs zs) (g us ws))
    (h : ∀ (kV doc pm : Value) (an : Option Addr) (cdv ct : Value) (us ws : List Value), us.length = n → ws.length = ks.length →
      bindArgs (PySem.W.fnOf x qual (defArgs st) (defBody st) (defScope st) .none kV doc pm an cdv ct) ⟨us, ks.zip ws⟩ = pure (ps.zip (g us ws))) :
    KBn K fd ps n ks g g := by
  obtain ⟨oc, od, kV, doc, pm, an, cdv, ct, osl, rfl, lk, hcd⟩ := F.ex
  constructor
  · intro s us ws _ l1 l2
    exact .of_eq (h kV doc pm an cdv ct us ws l1 l2)
  · exact hrel
end

/-! ### numbers that are handed on as letters -/
def rModL : R2 := fun x y H Q => ∃ i j, x = .int i ∧ y = .int j ∧ 0 < j ∧ ∀ r, 0 ≤ r → r < j → r = i % j → Q (.int r) H
def rDivL : R2 := fun x y H Q => ∃ i j, x = .int i ∧ y = .int j ∧ (0 < j ∧ j < 1073741824) ∧ ∀ r, r = i / j → Q (.int r) H
section
variable {X : Cx}
theorem op_mod_l : OpR X (binaryOp .Mod) rModL := by
  intro pins s σ H x y v u Q I rx ry h
  obtain ⟨i, j, ex, ey, hj, q⟩ := h
  refine op_modN pins s σ H x y v u Q I rx ry ⟨i, j, ex, ey, by omega, ?_⟩
  dsimp only
  rw [Int.fmod_eq_emod_of_nonneg _ (by omega : 0 ≤ j)]
  exact q _ (Int.emod_nonneg _ (by omega)) (Int.emod_lt_of_pos _ hj) rfl
theorem op_div_l : OpR X (binaryOp .FloorDiv) rDivL := by
  intro pins s σ H x y v u Q I rx ry h
  obtain ⟨i, j, ex, ey, hj, q⟩ := h
  refine op_fdivN pins s σ H x y v u Q I rx ry ⟨i, j, ex, ey, ⟨by omega, by omega⟩, ?_⟩
  dsimp only
  rw [Int.fdiv_eq_ediv_of_nonneg _ (by omega : 0 ≤ j)]
  exact q _ rfl
end

/-! ### heaps -/
theorem Same.refl' (H : Hp) : Same H H := fun _ _ e => e
/-- all but one address stays -/
def But (p : Addr) (H H' : Hp) : Prop := ∀ a o, a ≠ p → H a = some o → H' a = some o
theorem But.refl {p : Addr} {H : Hp} : But p H H := fun _ _ _ e => e
theorem But.of {p : Addr} {H H' : Hp} (s : Same H H') : But p H H' := fun a o _ e => s a o e
theorem But.trans {p : Addr} {H H1 H2 : Hp} (a : But p H H1) (b : But p H1 H2) : But p H H2 := fun c o n e => b c o n (a c o n e)
theorem But.upd {p : Addr} {H H1 : Hp} {o : HO} (a : But p H H1) : But p H (upd H1 p o) := fun c u n e => by rw [upd_ne n]; exact a c u n e
theorem But.new {p q : Addr} {H H1 : Hp} {o : HO} (a : But p H H1) (n : H1 q = none) : But p H (L2.upd H1 q o) := fun c u m e => by
  have z := a c u m e
  rw [upd_ne (ne_of_none z n)]
  exact z
theorem same_new {q : Addr} {H H1 : Hp} {o : HO} (a : Same H H1) (n : H1 q = none) : Same H (L2.upd H1 q o) := fun c u e => by
  have z := a c u e
  rw [upd_ne (ne_of_none z n)]
  exact z
theorem same_trans {H H1 H2 : Hp} (a : Same H H1) (b : Same H1 H2) : Same H H2 := fun c o e => b c o (a c o e)
theorem But.seq {K : PySem.W.Frag} {p a : Addr} {xs : List V} {H H' : Hp} (b : But p H H') (n : a ≠ p) (h : SqL K H a xs) : SqL K H' a xs := by
  rcases h with (h | ⟨o, h⟩) | h
  · exact .inl (.inl (b _ _ n h))
  · exact .inl (.inr ⟨o, b _ _ n h⟩)
  · exact .inr h
theorem But.tup {K : PySem.W.Frag} {p a : Addr} {xs : List V} {H H' : Hp} (b : But p H H') (n : a ≠ p) (h : SqT K H a xs) : SqT K H' a xs := by
  rcases h with (h | ⟨o, h⟩) | h
  · exact .inl (.inl (b _ _ n h))
  · exact .inl (.inr ⟨o, b _ _ n h⟩)
  · exact .inr h
theorem same_tup {K : PySem.W.Frag} {a : Addr} {xs : List V} {H H' : Hp} (b : Same H H') (h : SqT K H a xs) : SqT K H' a xs := by
  rcases h with (h | ⟨o, h⟩) | h
  · exact .inl (.inl (b _ _ h))
  · exact .inl (.inr ⟨o, b _ _ h⟩)
  · exact .inr h
/-- a new object: the heap behind it by what is told of it -/
theorem mk_new {H : Hp} {o : HO} {Q : V → Hp → Prop} (h : ∀ p H', H p = none → H' p = some o → Same H H' → Q (.ref p) H') :
    ∀ p, H p = none → Q (.ref p) (L2.upd H p o) := fun p n => h p _ n upd_same (same_new (Same.refl' H) n)
/-- a store at p, told likewise -/
theorem mk_upd {H : Hp} {p : Addr} {o : HO} {R : Hp → Prop} (h : ∀ H', H' p = some o → But p H H' → R H') : R (L2.upd H p o) := h _ upd_same But.refl.upd
/-- a def that the text's top has bound to its name, with its promise; its arguments come by place -/
structure Has (P : Program) (w : World) (K : PySem.W.Frag) (mg : Str → Option Value) (base : Heap) (x : Str) (k : Nat) (ps : List Str) (sp : Sp) : Prop where
  ex : ∃ f fd, mg x = some (.ref f) ∧ PySem.W.keepIn K (.ref f) = true ∧ FnG P w K mg base CX0 k f fd ps sp ∧ KBn K fd ps ps.length [] (fun us _ => us) (fun vs _ => vs)
theorem Has.imp {P w K mg base x k ps sp sp'} (h : Has P w K mg base x k ps sp) (i : ∀ vs H Q E, sp' vs H Q E → sp vs H Q E) : Has P w K mg base x k ps sp' := by
  obtain ⟨f, fd, a, b, c, d⟩ := h.ex
  exact ⟨f, fd, a, b, c.imp i, d⟩
/-- f(e, ..) of such a def -/
theorem pe_has {X : Cx} {k : Nat} {x : Str} {ps : List Str} {sp : Sp} {p pos : Pos} {e : Expr} {es : List Expr} {t : TA} (h : Has X.prog X.w X.K X.mg X.base x k ps sp) (g : Clr X.A) (hr : Room k X.A) (hg : Gl X x)
    (ha : PA X (e :: es) t) (hdb : (x == ("__debug__" : Str)) = false := by decide)
    (he : starEach (e :: es) X.env = (false, eval e X.env) :: starEach es X.env := by rfl)
    (hpl : ((backTo pos (starEach (e :: es) X.env)).any (·.1) || (backToKw pos (keywordEach [] X.env)).any (·.1.isNone)) = false := by rfl) :
    PE X (.Call (.Name x p) (e :: es) [] pos) (tGo ps.length 0 sp (fun vs _ => vs) E0 t tNil) := by
  obtain ⟨f, fd, a, b, c, d⟩ := h.ex
  exact pe_go g c hr hg a b d pass0 ha pk_nil rfl rfl hdb he hpl
end GL

set_option Elab.async false
set_option linter.all false
set_option maxRecDepth 100000
set_option maxHeartbeats 2000000
/-! Rules that hand on a heap as a letter, with what is told of it. -/
namespace GL
open PySem PySem.Spec PyProof.Rows L2

abbrev NewK (H : Hp) (o : HO) (Q : VK) : Prop := ∀ p H', H p = none → H' p = some o → Same H H' → Q (.ref p) H'
abbrev PutK (H : Hp) (p : Addr) (o : HO) (R : Hp → Prop) : Prop := ∀ H', H' p = some o → But p H H' → R H'
theorem NewK.go {H : Hp} {o : HO} {Q : VK} (h : NewK H o Q) : ∀ p, H p = none → Q (.ref p) (upd H p o) := fun p n => h p _ n upd_same (same_new (Same.refl' H) n)
theorem PutK.go {H : Hp} {p : Addr} {o : HO} {R : Hp → Prop} (h : PutK H p o R) : R (upd H p o) := h _ upd_same But.refl.upd

def tLstL (t : TA) : TE := fun σ H Q => t σ H fun xs H1 => xs.length ≤ sizeLine ∧ NewK H1 (.lst xs) Q
def tTupL (t : TA) : TE := fun σ H Q => t σ H fun xs H1 => xs.length ≤ sizeLine ∧ NewK H1 (.tup xs) Q
section
variable {X : Cx} {es : List Expr} {t : TA} {pos : Pos}
theorem pe_lstL (h : PA X es t) : PE X (.List es pos) (tLstL t) := by
  constructor
  intro pins s σ H Q I hq
  apply wpAny_List_spliced
  refine thn (h.run pos pins s σ H _ I hq) ?_
  rintro us s1 ⟨xs, H1, I1, r, z, q⟩
  refine ⟨r.length ▸ z, .ref s1.heap.objs.size, _, ?_, rfl, q.go _ (I1.hok.fresh (Nat.le_refl _))⟩
  exact I1.laid (t' := s1.toks) (fun b u e => Heap.get?_push_of_some _ e) (Nat.le_refl _) ⟨z, us, 0, r, Heap.get?_push_size _ rfl⟩
theorem pe_tupL {x1} (h : PA X es t) : PE X (.Tuple es x1 pos) (tTupL t) := by
  constructor
  intro pins s σ H Q I hq
  apply wpAny_Tuple_spliced
  refine thn (h.run pos pins s σ H _ I hq) ?_
  rintro us s1 ⟨xs, H1, I1, r, z, q⟩
  refine ⟨r.length ▸ z, .ref s1.heap.objs.size, _, ?_, rfl, q.go _ (I1.hok.fresh (Nat.le_refl _))⟩
  exact I1.laid (t' := s1.toks) (fun b u e => Heap.get?_push_of_some _ e) (Nat.le_refl _) ⟨z, us, r, ⟨_, Heap.get?_push_size _ rfl, rfl, _, rfl⟩⟩

def rCatL : R2 := fun x y H Q => ∃ l b xs zs, x = .ref l ∧ y = .ref b ∧ H l = some (.lst xs) ∧ H b = some (.lst zs) ∧ xs.length + zs.length ≤ sizeLine ∧ NewK H (.lst (xs ++ zs)) Q
theorem op_catL : OpR X (binaryOp .Add) rCatL := by
  intro pins s σ H x y v u Q I rx ry h
  obtain ⟨l, b, xs, zs, ex, ey, e1, e2, z, q⟩ := h
  exact op_cat pins s σ H x y v u Q I rx ry ⟨l, b, xs, zs, ex, ey, e1, e2, z, q.go⟩
def rListOf (K : PySem.W.Frag) : List V → Hp → VK → Prop := fun xs H Q => ∃ p ys, xs = [.ref p] ∧ (SqL K H p ys ∨ SqT K H p ys) ∧ NewK H (.lst ys) Q
theorem call_listL : CallR X (.type "list") (rListOf X.K) := by
  intro pins s σ H xs us Q I r h
  obtain ⟨p, ys, e, o, q⟩ := h
  exact call_list_of pins s σ H xs us Q I r ⟨p, ys, e, o, q.go⟩
def rTupOf (K : PySem.W.Frag) : List V → Hp → VK → Prop := fun xs H Q => ∃ p ys, xs = [.ref p] ∧ SqL K H p ys ∧ NewK H (.tup ys) Q
theorem call_tupL : CallR X (.type "tuple") (rTupOf X.K) := by
  intro pins s σ H xs us Q I r h
  obtain ⟨p, ys, e, o, q⟩ := h
  exact call_tuple_of pins s σ H xs us Q I r ⟨p, ys, e, .inl ⟨o, q.go⟩⟩
def rSlcL (K : PySem.W.Frag) : V → Option Int → Option Int → Hp → VK → Prop := fun x lo hi H Q => ∃ a xs, x = .ref a ∧ SqL K H a xs ∧ NewK H (.lst (cutV xs lo hi)) Q
theorem slcL : L2.SlR X (rSlcL X.K) := by
  intro pins s σ H x v vl vu lo hi sl Q I rx hs pl pu h
  obtain ⟨a, xs, e, o, q⟩ := h
  exact sl_list pins s σ H x v vl vu lo hi sl Q I rx hs pl pu ⟨a, xs, e, o, q.go⟩
def rSortL (K : PySem.W.Frag) : List V → Hp → VK → Prop := fun vs H Q => ∃ (a : Addr) (xs : List Str), vs = [V.ref a] ∧ (SqL K H a (xs.map V.str)) ∧ xs.length < 64 ∧
  ∀ ys : List Str, ys.Perm xs → sortedS ys = true → NewK H (.lst (ys.map V.str)) Q
theorem call_sortL : CallR X (.builtin "sorted") (rSortL X.K) := by
  intro pins s σ H xs us Q I r h
  obtain ⟨a, zs, e, o, l, q⟩ := h
  exact cr_sortedS pins s σ H xs us Q I r ⟨a, zs, e, o, l, fun ys p h1 h2 h3 => (q ys h1 h2).go p h3⟩

def rAppL : V → List V → Hp → VK → Prop := fun x vs H Q => ∃ l xs y, x = .ref l ∧ vs = [y] ∧ H l = some (.lst xs) ∧ xs.length < sizeLine ∧ PutK H l (.lst (xs ++ [y])) (Q .non)
theorem mt_appL : MtM X "list.append" rAppL := by
  intro pins s σ H x xs v us Q I rx r h
  obtain ⟨l, ys, y, e1, e2, o, z, q⟩ := h
  exact mt_append pins s σ H x xs v us Q I rx r ⟨l, ys, y, e1, e2, o, z, q.go⟩
def rRevL : V → List V → Hp → VK → Prop := fun x vs H Q => ∃ l xs, x = .ref l ∧ vs = [] ∧ H l = some (.lst xs) ∧ PutK H l (.lst xs.reverse) (Q .non)
theorem mt_revL : MtM X "list.reverse" rRevL := by
  intro pins s σ H x xs v us Q I rx r h
  obtain ⟨l, ys, e1, e2, o, q⟩ := h
  exact mt_reverse pins s σ H x xs v us Q I rx r ⟨l, ys, e1, e2, o, q.go⟩
def rClrL : V → List V → Hp → VK → Prop := fun x vs H Q => ∃ l xs, x = .ref l ∧ vs = [] ∧ H l = some (.lst xs) ∧ PutK H l (.lst []) (Q .non)
theorem mt_clrL : MtM X "list.clear" rClrL := by
  intro pins s σ H x xs v us Q I rx r h
  obtain ⟨l, ys, e1, e2, o, q⟩ := h
  exact mt_clear pins s σ H x xs v us Q I rx r ⟨l, ys, e1, e2, o, q.go⟩
end

/-! ### back to what stood before -/
theorem back_same {H H' : Hp} {a : Addr} (s : Same H H') (n : H' a = none) : H a = none := Same.free s n
theorem back_but {p : Addr} {H H' : Hp} {a : Addr} (b : But p H H') (n : H' a = none) (h : a ≠ p) : H a = none := by
  cases q : H a with
  | none => rfl
  | some o => rw [b _ _ h q] at n; cases n
theorem ne_some {H : Hp} {a p : Addr} {o : HO} (n : H a = none) (e : H p = some o) : a ≠ p := fun z => by rw [z, e] at n; cases n
end GL

set_option Elab.async false
set_option linter.all false
set_option maxRecDepth 100000
set_option maxHeartbeats 2000000
/-! Methods and makers of the text's classes, with their promises, as one fact each. -/
namespace GL
open PySem PySem.Spec PyProof.Rows L2

/-- the class at C has the method, with its promise -/
structure HasM (P : Program) (w : World) (K : PySem.W.Frag) (mg : Str → Option Value) (base : Heap) (C : Addr) (m : Str) (k : Nat) (ps : List Str) (sp : Sp) : Prop where
  ex : ∃ f fd, Meth K C m f ∧ FnG P w K mg base CX0 k f fd ps sp ∧ KBn K fd ps ps.length [] (fun us _ => us) (fun vs _ => vs)
/-- the method, called with some of its values by names: n by place (the object among them), ks by name, g puts them in their places -/
structure HasMK (P : Program) (w : World) (K : PySem.W.Frag) (mg : Str → Option Value) (base : Heap) (C : Addr) (m : Str) (k : Nat) (ps : List Str) (sp : Sp)
    (n : Nat) (ks : List Str) (gV : List V → List V → List V) : Prop where
  ex : ∃ f fd g1, Meth K C m f ∧ FnG P w K mg base CX0 k f fd ps sp ∧ KBn K fd ps n ks g1 gV
/-- the class is made so: n values behind the object by place, ks by name -/
structure HasC (P : Program) (w : World) (K : PySem.W.Frag) (mg : Str → Option Value) (base : Heap) (C : Addr) (k : Nat) (ps : List Str) (sp : Sp)
    (n : Nat) (ks : List Str) (gV : List V → List V → List V) : Prop where
  ex : ∃ f fd g1, Mk K C f ∧ FnG P w K mg base CX0 k f fd ps sp ∧ KBn K fd ps (n + 1) ks g1 gV
section
variable {X : Cx} {k n : Nat} {C : Addr} {x m : Str} {ps ks : List Str} {sp : Sp} {p pos apos : Pos} {e o : Expr} {es : List Expr} {kws : List Keyword} {ta : TE} {t tk : TA}
  {gV : List V → List V → List V}
theorem pe_hasM {pl : Sem Bool} (h : HasM X.prog X.w X.K X.mg X.base C m k ps sp) (c : Cls X.K C) (g : Clr X.A) (hr : Room k X.A) (hn : ps.length = n + 1) (he : PE X o ta) (ha : PA X (e :: es) t)
    (hst : starEach (e :: es) X.env = (false, eval e X.env) :: starEach es X.env := by rfl)
    (hpl : ((backTo pos (starEach (e :: es) X.env)).any (·.1) || (backToKw pos (keywordEach [] X.env)).any (·.1.isNone)) = false := by rfl)
    (ht : eval (.Call (.Attribute o m apos) (e :: es) [] pos) X.env = (do
      let ov ← eval o X.env
      standAt apos.atName
      let (f, first) ← holding [ov] (getMethod ov m pl)
      callWith pos f first (backTo pos (starEach (e :: es) X.env)) (backToKw pos (keywordEach [] X.env))) := by rfl) :
    PE X (.Call (.Attribute o m apos) (e :: es) [] pos) (tGoM C m n 0 sp (fun vs _ => vs) E0 ta t tNil) := by
  obtain ⟨f, fd, a, F, b⟩ := h.ex
  rw [hn] at b
  exact pe_goM g he c a F hr b pass0 ha pk_nil rfl rfl hst hpl ht
theorem pe_hasM0 {pl : Sem Bool} (h : HasM X.prog X.w X.K X.mg X.base C m k ps sp) (c : Cls X.K C) (g : Clr X.A) (hr : Room k X.A) (hn : ps.length = 1) (he : PE X o ta)
    (hpl : ((backTo pos (starEach [] X.env)).any (·.1) || (backToKw pos (keywordEach [] X.env)).any (·.1.isNone)) = false := by rfl)
    (ht : eval (.Call (.Attribute o m apos) [] [] pos) X.env = (do
      let ov ← eval o X.env
      standAt apos.atName
      let (f, first) ← holding [ov] (getMethod ov m pl)
      callWith pos f first (backTo pos (starEach [] X.env)) (backToKw pos (keywordEach [] X.env))) := by rfl) :
    PE X (.Call (.Attribute o m apos) [] [] pos) (tGoM C m 0 0 sp (fun vs _ => vs) E0 ta tNil tNil) := by
  obtain ⟨f, fd, a, F, b⟩ := h.ex
  rw [hn] at b
  exact pe_goM0 g he c a F hr b pass0 pk_nil rfl rfl hpl ht
theorem pe_hasMK0 {pl : Sem Bool} (h : HasMK X.prog X.w X.K X.mg X.base C m k ps sp 1 ks gV) (c : Cls X.K C) (g : Clr X.A) (hr : Room k X.A) (he : PE X o ta) (hw : PK X kws tk)
    (hall : (backToKw pos (keywordEach kws X.env)).all (·.1.isSome) = true := by rfl)
    (hks : (backToKw pos (keywordEach kws X.env)).filterMap (·.1) = ks := by rfl)
    (hpl : ((backTo pos (starEach [] X.env)).any (·.1) || (backToKw pos (keywordEach kws X.env)).any (·.1.isNone)) = false := by rfl)
    (ht : eval (.Call (.Attribute o m apos) [] kws pos) X.env = (do
      let ov ← eval o X.env
      standAt apos.atName
      let (f, first) ← holding [ov] (getMethod ov m pl)
      callWith pos f first (backTo pos (starEach [] X.env)) (backToKw pos (keywordEach kws X.env))) := by rfl) :
    PE X (.Call (.Attribute o m apos) [] kws pos) (tGoM C m 0 ks.length sp gV E0 ta tNil tk) := by
  obtain ⟨f, fd, g1, a, F, b⟩ := h.ex
  exact pe_goM0 g he c a F hr b pass0 hw hall hks hpl ht
theorem pe_hasC (h : HasC X.prog X.w X.K X.mg X.base C k ps sp n ks gV) (g : Clr X.A) (hr : Room (k + 1) X.A) (hg : Gl X x) (hm : X.mg x = some (.ref C)) (ha : PA X (e :: es) t) (hw : PK X kws tk)
    (hall : (backToKw pos (keywordEach kws X.env)).all (·.1.isSome) = true := by rfl)
    (hks : (backToKw pos (keywordEach kws X.env)).filterMap (·.1) = ks := by rfl)
    (hdb : (x == ("__debug__" : Str)) = false := by decide)
    (he : starEach (e :: es) X.env = (false, eval e X.env) :: starEach es X.env := by rfl)
    (hpl : ((backTo pos (starEach (e :: es) X.env)).any (·.1) || (backToKw pos (keywordEach kws X.env)).any (·.1.isNone)) = false := by rfl) :
    PE X (.Call (.Name x p) (e :: es) kws pos) (tNew C n ks.length sp gV E0 t tk) := by
  obtain ⟨f, fd, g1, a, F, b⟩ := h.ex
  exact pe_new g a F hr hg hm b pass0 ha hw hall hks hdb he hpl
theorem pe_hasC0 (h : HasC X.prog X.w X.K X.mg X.base C k ps sp 0 ks gV) (g : Clr X.A) (hr : Room (k + 1) X.A) (hg : Gl X x) (hm : X.mg x = some (.ref C)) (hw : PK X kws tk)
    (hall : (backToKw pos (keywordEach kws X.env)).all (·.1.isSome) = true := by rfl)
    (hks : (backToKw pos (keywordEach kws X.env)).filterMap (·.1) = ks := by rfl)
    (hdb : (x == ("__debug__" : Str)) = false := by decide)
    (hpl : ((backTo pos (starEach [] X.env)).any (·.1) || (backToKw pos (keywordEach kws X.env)).any (·.1.isNone)) = false := by rfl) :
    PE X (.Call (.Name x p) [] kws pos) (tNew C 0 ks.length sp gV E0 tNil tk) := by
  obtain ⟨f, fd, g1, a, F, b⟩ := h.ex
  exact pe_new0 g a F hr hg hm b pass0 hw hall hks hdb hpl

/-! own operators of such a class -/
theorem HasM.own {nm : Str} (h : HasM X.prog X.w X.K X.mg X.base C nm k ps sp) : ∃ f fd, Own X CX0 k C nm f fd ps sp ps.length E0 := by
  obtain ⟨f, fd, a, F, b⟩ := h.ex
  exact ⟨f, fd, F, a.at_, a.fn, b, pass0⟩
theorem cr_len (h : HasM X.prog X.w X.K X.mg X.base C "__len__" k ["self"] sp) (g : Clr X.A) (hr : Room (k + 1) X.A) : CallR X (.builtin "len") (rLenO C sp E0) := by
  obtain ⟨f, fd, W⟩ := h.own
  exact call_len_O g hr W
theorem cr_repr (h : HasM X.prog X.w X.K X.mg X.base C "__repr__" k ["self"] sp) (g : Clr X.A) (hr : Room (k + 1) X.A) : CallR X (.builtin "repr") (rReprO C sp E0) := by
  obtain ⟨f, fd, W⟩ := h.own
  exact call_repr_O g hr W
theorem or_eq (h : HasM X.prog X.w X.K X.mg X.base C "__eq__" k ["self", "other"] sp) (B : Below X.K C) (g : Clr X.A) (hr : Room k X.A) : OpR X (compareOp .Eq) (rEqO X.K C sp E0) := by
  obtain ⟨f, fd, W⟩ := h.own
  exact op_eq_O g hr W B
theorem or_ne (h : HasM X.prog X.w X.K X.mg X.base C "__eq__" k ["self", "other"] sp) (T : ∃ f N, EqC X.K C f N ∧ PySem.W.findIn X.K (.ref C) "__eq__" = some (some (.ref f))) (g : Clr X.A) (hr : Room (k + 1) X.A) :
    OpR X (compareOp .NotEq) (rNeO C sp E0) := by
  obtain ⟨f, fd, W⟩ := h.own
  obtain ⟨f', N, T, e⟩ := T
  have z := e.symm.trans W.at_
  cases z
  exact op_ne_O g hr W T
theorem or_add (h : HasM X.prog X.w X.K X.mg X.base C (PySem.dunder "add") k ["self", "other"] sp) (T : AddC X.K C) (g : Clr X.A) (hr : Room k X.A)
    (hv : ∀ vs H Q, sp vs H Q E0 → sp vs H (fun v H1 => (∃ a, v = .ref a) ∧ Q v H1) E0) : OpR X (binaryOp .Add) (rAddO X.K C sp E0) := by
  obtain ⟨f, fd, W⟩ := h.own
  exact op_add_O g hr W T hv
end
end GL

set_option Elab.async false
set_option linter.all false
set_option maxRecDepth 100000
set_option maxHeartbeats 2000000
/-! Dicts among whose keys None may stand, alone or within pairs. -/
namespace GL
open PySem PySem.Spec PyProof.Rows L2

abbrev NK := Option Key
def nV : NK → V
  | none => .non
  | some k => kV k
section
variable {P : Program} {w : World}
theorem nV_is {k : NK} {u : Value} (r : RelV (nV k) u) : (noneKind P w).is k u = true := by
  cases k with
  | some j => exact kV_is (P := P) (w := w) r
  | none => cases (show u = Value.none from r); rfl
theorem n_items : ∀ {ks : List NK} {us : List Value}, Vals (ks.map nV) us → ItemsAre (noneKind P w) ks us
  | [], us, r => by cases r; exact .nil
  | k :: ks, us, r => by cases r with | cons h t => exact .cons (nV_is h) (n_items t)
/-- the dict at a, its keys None, numbers, texts -/
def NDo (P : Program) (w : World) (a : Addr) (kvs : List (NK × V)) : HO :=
  .ext fun h => kvs.length ≤ sizeLine ∧ (a == sysModules) = false ∧ ∃ vs, KV kvs vs ∧ h.DictOf (noneKind P w) a vs
/-- an entry of a dict with tuples as keys: the key, where its tuple stands, the value -/
abbrev PE3 := List NK × Addr × V
def PR : List PE3 → List (List NK × Addr × Value) → Prop := Paired fun p q => p.1 = q.1 ∧ p.2.1 = q.2.1 ∧ RelV p.2.2 q.2.2
def PDo (P : Program) (w : World) (a : Addr) (xs : List PE3) : HO :=
  .ext fun h => xs.length ≤ sizeLine ∧ (a == sysModules) = false ∧ ∃ ys, PR xs ys ∧ ∃ o es ep, h.get? a = some o ∧ o.ExactDict ∧ o.data = .dict es ep ∧
    es.toList = ys.map (entryOfKey (tupleKind (noneKind P w))) ∧ (ys.map (·.1)).Nodup
/-- the dict of pairs at a, its tuples told too -/
def PD (P : Program) (w : World) (H : Hp) (a : Addr) (kvs : List (List NK × V)) : Prop :=
  ∃ xs, H a = some (PDo P w a xs) ∧ xs.map (fun x => (x.1, x.2.2)) = kvs ∧ ∀ x ∈ xs, H x.2.1 = some (.tup (x.1.map nV))
end
theorem pd_same {P : Program} {w : World} {H H' : Hp} {a : Addr} {kvs : List (List NK × V)} (h : PD P w H a kvs) (s : Same H H') : PD P w H' a kvs := by
  obtain ⟨xs, e, m, t⟩ := h
  exact ⟨xs, s _ _ e, m, fun x hx => s _ _ (t x hx)⟩
theorem pd_but {P : Program} {w : World} {H H' : Hp} {a p : Addr} {kvs : List (List NK × V)} {o : HO} (h : PD P w H a kvs) (b : But p H H') (n : a ≠ p) (ep : H p = some o) (no : ∀ ys, o ≠ .tup ys) : PD P w H' a kvs := by
  obtain ⟨xs, e, m, t⟩ := h
  refine ⟨xs, b _ _ n e, m, fun x hx => b _ _ (ne_of (t x hx) ep fun z => no _ z.symm) (t x hx)⟩

section
variable {X : Cx} {pins : List (Addr × Obj)} {σ : L2.St} {H : Hp} {s : Shared} {a b : Addr} {y v : V} {u r : Value} {o : Option V} {A : Around} {E : Value → Shared → Prop}
theorem nd_of {kvs : List (NK × V)} (I : L2.Inv X pins σ H s) (e : H a = some (NDo X.prog X.w a kvs)) :
    kvs.length ≤ sizeLine ∧ (a == sysModules) = false ∧ ∃ vs, KV kvs vs ∧ s.heap.DictOf (noneKind X.prog X.w) a vs := (I.hok a _ e).1
theorem nd_put {H' : Hp} {h' : Heap} {kvs : List (NK × V)} {vs : List (NK × Value)} (z : kvs.length ≤ sizeLine) (hd : (a == sysModules) = false) (rel : KV kvs vs) (dd : h'.DictOf (noneKind X.prog X.w) a vs) :
    ObjOk X.prog X.w H' h' a (NDo X.prog X.w a kvs) := by
  obtain ⟨ob, es, ep, ho, rest⟩ := dd
  refine ⟨⟨z, hd, vs, rel, ob, es, ep, ho, rest⟩, ⟨ob, ho⟩, ?_⟩
  rintro h1 h2 ⟨z1, hd1, vs1, rel1, o1, es1, ep1, ho1, rest1⟩ st
  exact ⟨z1, hd1, vs1, rel1, o1, es1, ep1, st _ ho1, rest1⟩
theorem nkey_of {ks : List NK} (I : L2.Inv X pins σ H s) (e : H b = some (.tup (ks.map nV))) : (tupleKind (noneKind X.prog X.w)).is s.heap ks b := by
  obtain ⟨_, its, rv, ob, h1, h2, n, h3⟩ := (show ObjOk X.prog X.w H s.heap b (.tup (ks.map nV)) from I.hok b _ e)
  refine ⟨ob, its.toArray, n, h1, h2, h3, ?_⟩
  have z := n_items (P := X.prog) (w := X.w) rv
  simpa using z
theorem PR.at (xs : List PE3) (ys : List (List NK × Addr × Value)) (h : PR xs ys) (k : List NK) : RelO (valV (xs.map fun x => (x.1, x.2.2)) k) ((atKey ys k).map (·.2)) := by
  unfold PR at h
  induction h with
  | nil => exact True.intro
  | @cons p q ps qs h1 _ ih =>
    obtain ⟨e1, _, e3⟩ := h1
    by_cases c : p.1 = k
    · have l : valV ((p.1, p.2.2) :: ps.map fun x => (x.1, x.2.2)) k = some p.2.2 := valV_pos c
      have l2 : atKey (q :: qs) k = some q.2 := by simp [atKey, List.find?_cons, e1.symm.trans c]
      show RelO (valV ((p.1, p.2.2) :: ps.map fun x => (x.1, x.2.2)) k) _
      rw [l, l2]
      exact e3
    · have l : valV ((p.1, p.2.2) :: ps.map fun x => (x.1, x.2.2)) k = valV (ps.map fun x => (x.1, x.2.2)) k := valV_neg c
      have c2 : ¬ q.1 = k := fun z => c (e1.trans z)
      have l2 : atKey (q :: qs) k = atKey qs k := by simp [atKey, List.find?_cons, c2]
      show RelO (valV ((p.1, p.2.2) :: ps.map fun x => (x.1, x.2.2)) k) _
      rw [l, l2]
      exact ih
theorem pd_of {kvs : List (List NK × V)} (I : L2.Inv X pins σ H s) (e : PD X.prog X.w H a kvs) :
    kvs.length ≤ sizeLine ∧ (a == sysModules) = false ∧ ∃ xs ys, H a = some (PDo X.prog X.w a xs) ∧ xs.map (fun x => (x.1, x.2.2)) = kvs ∧ (∀ x ∈ xs, H x.2.1 = some (.tup (x.1.map nV))) ∧ PR xs ys ∧
      s.heap.DictOfH (tupleKind (noneKind X.prog X.w)) a ys := by
  obtain ⟨xs, ea, m, t⟩ := e
  obtain ⟨z, hd, ys, rel, ob, es, ep, h1, h2, h3, h4, h5⟩ := (I.hok a _ ea).1
  refine ⟨by rw [← m, List.length_map]; exact z, hd, xs, ys, ea, m, t, rel, ob, es, ep, h1, h2, h3, h4, ?_, h5⟩
  have go : ∀ {xs : List PE3} {ys : List (List NK × Addr × Value)}, PR xs ys → (∀ x ∈ xs, H x.2.1 = some (.tup (x.1.map nV))) → ∀ q ∈ ys, (tupleKind (noneKind X.prog X.w)).is s.heap q.1 q.2.1 := by
    intro xs ys q
    unfold PR at q
    induction q with
    | nil => intro _ q hq; cases hq
    | @cons p q ps qs h1 _ ih =>
      intro ht r hr
      rcases List.mem_cons.mp hr with rfl | hr
      · have := nkey_of I (ht p (List.mem_cons_self ..))
        rw [h1.1, h1.2.1] at this
        exact this
      · exact ih (fun x hx => ht x (List.mem_cons_of_mem _ hx)) r hr
  exact go rel t

/-- what such a dict holds at y -/
def OGet (P : Program) (w : World) (H : Hp) (a : Addr) (y : V) (r : Option V) : Prop :=
  (∃ kvs k, H a = some (NDo P w a kvs) ∧ y = nV k ∧ r = valV kvs k) ∨ ∃ kvs k b, PD P w H a kvs ∧ y = .ref b ∧ H b = some (.tup (k.map nV)) ∧ r = valV kvs k
/-- what is asked of the heap behind a[y] = v -/
def OPut (P : Program) (w : World) (H : Hp) (a : Addr) (y v : V) (R : Hp → Prop) : Prop :=
  (∃ kvs k, H a = some (NDo P w a kvs) ∧ y = nV k ∧ kvs.length < sizeLine ∧ ∀ H', H' a = some (NDo P w a (putK kvs k v)) → But a H H' → R H') ∨
  ∃ kvs k b, PD P w H a kvs ∧ y = .ref b ∧ H b = some (.tup (k.map nV)) ∧ kvs.length < sizeLine ∧ ∀ H', PD P w H' a (putK kvs k v) → But a H H' → R H'

theorem og_get {Q : Value → Shared → Prop} (hu : A.units + 1 < cLine) (I : L2.Inv X pins σ H s) (g : OGet X.prog X.w H a y (some v)) (ry : RelV y u) (h : ∀ w' s', L2.Inv X pins σ H s' → RelV v w' → Q w' s') :
    wpAny (model X.prog X.w) A (getItem (.ref a) u) Q E s := by
  rcases g with ⟨kvs, k, e, rfl, l⟩ | ⟨kvs, k, b, e, rfl, eb, l⟩
  · obtain ⟨_, _, vs, rel, dd⟩ := nd_of I e
    have q := rel.val k
    rw [← l] at q
    obtain ⟨w', hw, rw'⟩ := RelO.some_of q
    exact wpAny_getItem_of (nV_is ry) dd.mapOf hw (h w' _ (I.tok _) rw')
  · cases ry
    obtain ⟨_, _, xs, ys, _, m, _, rel, dd⟩ := pd_of I e
    have q := PR.at _ _ rel k
    rw [m, ← l] at q
    obtain ⟨w', hw, rw'⟩ := RelO.some_of q
    obtain ⟨p, hp, rfl⟩ := Option.map_eq_some_iff.mp hw
    exact wpAny_getItem_heap (tupleKind_room_in1 hu) (nkey_of I eb) dd hp (h _ _ (I.tok _) rw')
theorem og_in {Q : Value → Shared → Prop} (hu : A.units + 1 < cLine) (I : L2.Inv X pins σ H s) (g : OGet X.prog X.w H a y o) (ry : RelV y u) (h : ∀ s', L2.Inv X pins σ H s' → Q (.bool o.isSome) s') :
    wpAny (model X.prog X.w) A (compareOp .In u (.ref a)) Q E s := by
  rcases g with ⟨kvs, k, e, rfl, l⟩ | ⟨kvs, k, b, e, rfl, eb, l⟩
  · obtain ⟨_, hd, vs, rel, dd⟩ := nd_of I e
    have q := (rel.val k).isSome_eq
    rw [← l] at q
    exact wpAny_in_of (nV_is ry) hd dd.mapOf (q ▸ h _ (I.tok _))
  · cases ry
    obtain ⟨_, hd, xs, ys, _, m, _, rel, dd⟩ := pd_of I e
    have q := (PR.at _ _ rel k).isSome_eq
    rw [m, ← l, Option.isSome_map] at q
    exact wpAny_in_heap (tupleKind_room_in1 hu) (nkey_of I eb) hd dd (q ▸ h _ (I.tok _))
theorem og_notIn {Q : Value → Shared → Prop} (hu : A.units + 1 < cLine) (I : L2.Inv X pins σ H s) (g : OGet X.prog X.w H a y o) (ry : RelV y u) (h : ∀ s', L2.Inv X pins σ H s' → Q (.bool (!o.isSome)) s') :
    wpAny (model X.prog X.w) A (compareOp .NotIn u (.ref a)) Q E s := by
  rcases g with ⟨kvs, k, e, rfl, l⟩ | ⟨kvs, k, b, e, rfl, eb, l⟩
  · obtain ⟨_, hd, vs, rel, dd⟩ := nd_of I e
    have q := (rel.val k).isSome_eq
    rw [← l] at q
    exact wpAny_notIn_of (nV_is ry) hd dd.mapOf (q ▸ h _ (I.tok _))
  · cases ry
    obtain ⟨_, hd, xs, ys, _, m, _, rel, dd⟩ := pd_of I e
    have q := (PR.at _ _ rel k).isSome_eq
    rw [m, ← l, Option.isSome_map] at q
    exact wpAny_notIn_heap (tupleKind_room_in1 hu) (nkey_of I eb) hd dd (q ▸ h _ (I.tok _))
theorem og_get2 {d : V} {Q : Value → Shared → Prop} (hu : A.units + 1 < cLine) (I : L2.Inv X pins σ H s) (g : OGet X.prog X.w H a y o) (ry : RelV y u) (rd : RelV d r) (h : ∀ w' s', L2.Inv X pins σ H s' → RelV (o.getD d) w' → Q w' s') :
    wpAny (model X.prog X.w) A (call (.builtin "dict.get") [.ref a, u, r]) Q E s := by
  rcases g with ⟨kvs, k, e, rfl, l⟩ | ⟨kvs, k, b, e, rfl, eb, l⟩
  · obtain ⟨_, hd, vs, rel, dd⟩ := nd_of I e
    have q := (rel.val k).getD rd
    rw [← l] at q
    have m := meets_dict_get_default (noneKind X.prog X.w) a (nV_is ry) hd r
    exact call_meetsIn PySem.F.slot_dict_get dd.typeIs PySem.F.entry_dict_get (PySem.F.args_dict_get_3 _ _ _) m ⟨_, dd.mapOf, h _ _ (I.tok _) q⟩
  · cases ry
    obtain ⟨_, hd, xs, ys, _, m, _, rel, dd⟩ := pd_of I e
    have q := (PR.at _ _ rel k).getD rd
    rw [m, ← l] at q
    have mm := meetsH_dict_get_default (tupleKind (noneKind X.prog X.w)) a b hd r
    exact call_meetsIn PySem.F.slot_dict_get dd.typeIs PySem.F.entry_dict_get (PySem.F.args_dict_get_3 _ _ _) mm ⟨tupleKind_room_in1 hu, k, ys, nkey_of I eb, dd, h _ _ (I.tok _) q⟩
end
end GL

set_option Elab.async false
set_option linter.all false
set_option maxRecDepth 100000
set_option maxHeartbeats 2000000
namespace GL
open PySem PySem.Spec PyProof.Rows L2

/-- an entry is put: in its place, or at the end, where its tuple stands at b -/
def putE (xs : List PE3) (k : List NK) (b : Addr) (v : V) : List PE3 :=
  if (xs.any fun x => decide (x.1 = k)) = true then xs.map (fun x => if x.1 = k then (x.1, x.2.1, v) else x) else xs ++ [(k, b, v)]
theorem putE_kvs (xs : List PE3) (k : List NK) (b : Addr) (v : V) : (putE xs k b v).map (fun x => (x.1, x.2.2)) = putK (xs.map fun x => (x.1, x.2.2)) k v := by
  unfold putE putK
  have e : ((xs.map fun x => (x.1, x.2.2)).any fun kv => decide (kv.1 = k)) = xs.any fun x => decide (x.1 = k) := by
    rw [List.any_map]
    rfl
  rw [e]
  split
  · rw [List.map_map, List.map_map]
    refine List.map_congr_left fun x _ => ?_
    show ((if x.1 = k then (x.1, x.2.1, v) else x).1, (if x.1 = k then (x.1, x.2.1, v) else x).2.2) = if x.1 = k then (x.1, v) else (x.1, x.2.2)
    split <;> rfl
  · rw [List.map_append]
    rfl
theorem putE_tups {H : Hp} {xs : List PE3} {k : List NK} {b : Addr} {v : V} (h : ∀ x ∈ xs, H x.2.1 = some (.tup (x.1.map nV))) (hb : H b = some (.tup (k.map nV))) : ∀ x ∈ putE xs k b v, H x.2.1 = some (.tup (x.1.map nV)) := by
  intro x hx
  unfold putE at hx
  split at hx
  · obtain ⟨y, hy, rfl⟩ := List.mem_map.mp hx
    have z := h y hy
    split
    · exact z
    · exact z
  · rcases List.mem_append.mp hx with hx | hx
    · exact h x hx
    · rw [List.mem_singleton.mp hx]
      exact hb
theorem putE_len (xs : List PE3) (k : List NK) (b : Addr) (v : V) : (putE xs k b v).length ≤ xs.length + 1 := by
  unfold putE
  split
  · rw [List.length_map]; omega
  · simp
theorem PR.put {xs : List PE3} {ys : List (List NK × Addr × Value)} (h : PR xs ys) (k : List NK) {b : Addr} {v : V} {u : Value} (r : RelV v u) : PR (putE xs k b v) (storedH ys k b u) := by
  have e : (xs.any fun x => decide (x.1 = k)) = (atKey ys k).isSome := by
    have q := (PR.at _ _ h k).isSome_eq
    rw [Option.isSome_map, ← valV_any, List.any_map] at q
    exact q
  unfold putE storedH
  rw [e]
  split
  · unfold PR at h ⊢
    clear e
    rename_i hh
    clear hh
    induction h with
    | nil => exact .nil
    | @cons p q ps qs h1 _ ih =>
      rw [List.map_cons, List.map_cons]
      refine .cons ?_ ih
      obtain ⟨e1, e2, e3⟩ := h1
      unfold putAt
      by_cases c : p.1 = k
      · rw [if_pos c, if_pos (e1.symm.trans c)]
        exact ⟨e1, e2, r⟩
      · rw [if_neg c, if_neg fun z => c (e1.trans z)]
        exact ⟨e1, e2, e3⟩
  · exact Paired.snoc h ⟨rfl, rfl, r⟩

section
variable {X : Cx} {pins : List (Addr × Obj)} {σ : L2.St} {H : Hp} {s : Shared} {a b : Addr} {y v : V} {u r : Value} {A : Around} {E : Value → Shared → Prop}
theorem pdo_put {H' : Hp} {h' : Heap} {xs : List PE3} {ys : List (List NK × Addr × Value)} (z : xs.length ≤ sizeLine) (hd : (a == sysModules) = false) (rel : PR xs ys) (dd : h'.DictOfH (tupleKind (noneKind X.prog X.w)) a ys) :
    ObjOk X.prog X.w H' h' a (PDo X.prog X.w a xs) := by
  obtain ⟨ob, es, ep, ho, h2, h3, h4, _, h5⟩ := dd
  refine ⟨⟨z, hd, ys, rel, ob, es, ep, ho, h2, h3, h4, h5⟩, ⟨ob, ho⟩, ?_⟩
  rintro h1 h2 ⟨z1, hd1, ys1, rel1, o1, es1, ep1, ho1, rest1⟩ st
  exact ⟨z1, hd1, ys1, rel1, o1, es1, ep1, st _ ho1, rest1⟩
theorem mut_ext {H : Hp} {a : Addr} {φ : Heap → Prop} (e : H a = some (.ext φ)) : Mut (H a) := by rw [e]; exact True.intro
/-- the store itself, by whichever of the machine's two ways -/
theorem og_store {R : Hp → Prop} {T : (Unit → Shared → Prop) → Prop} (I : L2.Inv X pins σ H s) (g : OPut X.prog X.w H a y v R) (ry : RelV y u) (rv : RelV v r) {Q : Unit → Shared → Prop}
    (h : ∀ H' s', R H' → L2.Inv X pins σ H' s' → Q () s')
    (t1 : ∀ {kvs : List (NK × Value)} {k : NK}, (noneKind X.prog X.w).is k u = true → s.heap.DictOf (noneKind X.prog X.w) a kvs → kvs.length ≤ sizeLine →
      (∀ h', h'.DictOf (noneKind X.prog X.w) a (stored kvs k r) → Heap.SameBut a s.heap h' → ∀ n, Q () { s with heap := h', toks := n }) → T Q)
    (t2 : ∀ {b : Addr} {ys : List (List NK × Addr × Value)} {k : List NK}, u = .ref b → (tupleKind (noneKind X.prog X.w)).is s.heap k b → s.heap.DictOfH (tupleKind (noneKind X.prog X.w)) a ys → ys.length ≤ sizeLine →
      (∀ h', h'.DictOfH (tupleKind (noneKind X.prog X.w)) a (storedH ys k b r) → Heap.SameBut a s.heap h' → ∀ n, Q () { s with heap := h', toks := n }) → T Q) : T Q := by
  rcases g with ⟨kvs, k, e, rfl, l, q⟩ | ⟨kvs, k, b, e, rfl, eb, l, q⟩
  · obtain ⟨z, hd, vs, rel, dd⟩ := nd_of I e
    have lp := length_putK kvs k v
    refine t1 (nV_is ry) dd (by rw [← rel.length]; exact z) fun h' dd' hs n => ?_
    obtain ⟨ob, _, _, ho, _⟩ := id dd'
    refine h _ _ (q (upd H a (NDo X.prog X.w a (putK kvs k v))) upd_same But.refl.upd) ?_
    exact d_write I (mut_ext e) hs ⟨ob, ho⟩ (nd_put (by omega) hd (rel.put k rv) dd')
  · have eu : u = .ref b := ry
    obtain ⟨z, hd, xs, ys, ea, m, t, rel, dd⟩ := pd_of I e
    have lx : xs.length = kvs.length := by rw [← m, List.length_map]
    have lp := putE_len xs k b v
    refine t2 eu (nkey_of I eb) dd (by rw [← Paired.length rel]; omega) fun h' dd' hs n => ?_
    obtain ⟨ob, _, _, ho, _⟩ := id dd'
    have nb : ∀ c ys', H c = some (.tup ys') → c ≠ a := fun c ys' ec => ne_of ec ea fun z => nomatch z
    refine h _ _ (q (upd H a (PDo X.prog X.w a (putE xs k b v))) ⟨_, upd_same, by rw [putE_kvs, m], ?_⟩ But.refl.upd) ?_
    · intro x hx
      have ex := putE_tups t eb x hx
      rw [upd_ne (nb _ _ ex)]
      exact ex
    · exact d_write I (mut_ext ea) hs ⟨ob, ho⟩ (pdo_put (by omega) hd (rel.put k rv) dd')
/-- a[y] = v -/
theorem og_setItem {R : Hp → Prop} {Q : Unit → Shared → Prop} (hu : A.units + 1 < cLine) (I : L2.Inv X pins σ H s) (g : OPut X.prog X.w H a y v R) (ry : RelV y u) (rv : RelV v r)
    (h : ∀ H' s', R H' → L2.Inv X pins σ H' s' → Q () s') : wpAny (model X.prog X.w) A (setItem (.ref a) u r) Q E s := by
  refine og_store (T := fun Q => wpAny (model X.prog X.w) A (setItem (.ref a) u r) Q E s) I g ry rv h ?_ ?_
  · intro kvs k hk dd z q
    exact wpAny_setItem_pairs (hsz := z) hk dd fun h' dd' hs => q h' dd' hs _
  · rintro b ys k rfl hk dd z q
    exact wpAny_setItem_heap (hsz := z) (tupleKind_room_in1 hu) hk dd fun h' dd' hs => q h' dd' hs _
/-- the store of a comprehension -/
theorem og_dictSet {R : Hp → Prop} {Q : Unit → Shared → Prop} (hu : A.units < cLine) (I : L2.Inv X pins σ H s) (g : OPut X.prog X.w H a y v R) (ry : RelV y u) (rv : RelV v r)
    (h : ∀ H' s', R H' → L2.Inv X pins σ H' s' → Q () s') : wpAny (model X.prog X.w) A (dictSet a u r) Q E s := by
  refine og_store (T := fun Q => wpAny (model X.prog X.w) A (dictSet a u r) Q E s) I g ry rv h ?_ ?_
  · intro kvs k hk dd z q
    exact wpAny_dictSet_pairs (hsz := z) hk dd fun h' dd' hs => q h' dd' hs _
  · rintro b ys k rfl hk dd z q
    exact wpAny_dictSet_heap (hsz := z) hu hk dd fun h' dd' hs => q h' dd' hs _
theorem og_at {o : Option V} (I : L2.Inv X pins σ H s) (g : OGet X.prog X.w H a y o) : s.TypeIs (.ref a) "dict" ∧ (∀ b, Value.ref a = .ref b → ∃ ob, s.heap.get? b = some ob ∧ ob.dict = none) := by
  rcases g with ⟨kvs, k, e, rfl, l⟩ | ⟨kvs, k, b, e, rfl, eb, l⟩
  · obtain ⟨_, _, vs, _, dd⟩ := nd_of I e
    refine ⟨dd.typeIs, fun b q => ?_⟩
    cases q
    obtain ⟨ob, _, _, h1, h2, _⟩ := dd
    exact ⟨ob, h1, h2.2.1⟩
  · obtain ⟨_, _, xs, ys, _, _, _, _, dd⟩ := pd_of I e
    refine ⟨dd.typeIs, fun b q => ?_⟩
    cases q
    obtain ⟨ob, _, _, h1, h2, _⟩ := dd
    exact ⟨ob, h1, h2.2.1⟩
end

/-! the rules -/
def tOGet (P : Program) (w : World) (td ty : TE) : TE := fun σ H Q => td σ H fun x H1 => ty σ H1 fun y H2 => ∃ a v, x = .ref a ∧ OGet P w H2 a y (some v) ∧ Q v H2
def tOIn (P : Program) (w : World) (ty td : TE) : TE := fun σ H Q => ty σ H fun y H1 => td σ H1 fun x H2 => ∃ a o, x = .ref a ∧ OGet P w H2 a y o ∧ Q (.bl o.isSome) H2
def tONotIn (P : Program) (w : World) (ty td : TE) : TE := fun σ H Q => ty σ H fun y H1 => td σ H1 fun x H2 => ∃ a o, x = .ref a ∧ OGet P w H2 a y o ∧ Q (.bl (!o.isSome)) H2
def sOPut (P : Program) (w : World) (td ty tv : TE) : TS := fun D σ H => tv σ H fun v H1 => td σ H1 fun x H2 => ty σ H2 fun y H3 => ∃ a, x = .ref a ∧ OPut P w H3 a y v fun H4 => D.nx σ H4
def IsO (P : Program) (w : World) (H : Hp) (a : Addr) : Prop := ∃ y o, OGet P w H a y o
def tOGet2 (P : Program) (w : World) (td ty tx : TE) : TE := fun σ H Q => td σ H fun x H1 => ∃ a, x = .ref a ∧ IsO P w H1 a ∧ ty σ H1 fun y H2 => tx σ H2 fun z H3 => ∃ o, OGet P w H3 a y o ∧ Q (o.getD z) H3
section
variable {X : Cx} {o i e f value : Expr} {pos pos' apos cpos : Pos} {td ty tv tx : TE}
theorem pe_oget (hu : X.A.units + 1 < cLine) (ho : PE X o td) (hi : PE X i ty) (hs : NoSl i) : PE X (.Subscript o i pos) (tOGet X.prog X.w td ty) := by
  constructor
  intro pins s σ H Q I h
  refine subD_of PySem.F.slot_dict_getitem.lookup hs (thn (ho.run pins s σ H _ I h) ?_)
  rintro u s1 ⟨x, H1, I1, rx, q1⟩
  refine thn (hi.run pins s1 σ H1 _ I1 q1) ?_
  rintro iv s2 ⟨y, H2, I2, ry, a, v, rfl, g, q2⟩
  cases rx
  exact ⟨(og_at I2 g).1, og_get hu I2 g ry fun w' s3 I3 rw' => ⟨v, H2, I3, rw', q2⟩⟩
theorem pc_oin (hu : X.A.units + 1 < cLine) (hi : PE X i ty) (ho : PE X o td) : PC X .In i o (tOIn X.prog X.w ty td) := by
  constructor
  intro pins s σ H Q I h
  refine thn (hi.run pins s σ H _ I h) ?_
  rintro iv s1 ⟨y, H1, I1, ry, q1⟩
  refine thn (ho.run pins s1 σ H1 _ I1 q1) ?_
  rintro u s2 ⟨x, H2, I2, rx, a, ov, rfl, g, q2⟩
  cases rx
  exact og_in hu I2 g ry fun s3 I3 => ⟨.bl ov.isSome, H2, I3, rfl, q2⟩
theorem pc_onotin (hu : X.A.units + 1 < cLine) (hi : PE X i ty) (ho : PE X o td) : PC X .NotIn i o (tONotIn X.prog X.w ty td) := by
  constructor
  intro pins s σ H Q I h
  refine thn (hi.run pins s σ H _ I h) ?_
  rintro iv s1 ⟨y, H1, I1, ry, q1⟩
  refine thn (ho.run pins s1 σ H1 _ I1 q1) ?_
  rintro u s2 ⟨x, H2, I2, rx, a, ov, rfl, g, q2⟩
  cases rx
  exact og_notIn hu I2 g ry fun s3 I3 => ⟨.bl (!ov.isSome), H2, I3, rfl, q2⟩
theorem ps_oput (hu : X.A.units + 1 < cLine) (ho : PE X o td) (hi : PE X i ty) (hv : PE X value tv) (hs : swapsWith value (some (.Subscript o i pos')) pos.line X.env = pure false) :
    PS X (.Assign [.Subscript o i pos'] value pos) (sOPut X.prog X.w td ty tv) := by
  constructor
  intro pins s σ H D I h
  refine wpAny_Assign_Subscript (thn (hv.run pins s σ H _ I h) ?_) hs
  rintro r s1 ⟨v, H1, I1, rv, q1⟩
  refine thn (ho.run pins s1 σ H1 _ I1 q1) ?_
  rintro u s2 ⟨x, H2, I2, rx, q2⟩
  refine thn (hi.run pins s2 σ H2 _ I2 q2) ?_
  rintro iv s3 ⟨y, H3, I3, ry, a, rfl, g⟩
  cases rx
  exact og_setItem hu I3 g ry rv fun H4 s4 q4 I4 => ⟨σ, H4, I4, q4⟩
theorem pe_oget2 (hu : X.A.units + 1 < cLine) (ho : PE X o td) (he : PE X e ty) (hf : PE X f tx) (m : M2 X o "get" apos e f cpos) : PE X (.Call (.Attribute o "get" apos) [e, f] [] cpos) (tOGet2 X.prog X.w td ty tx) := by
  constructor
  intro pins s σ H Q I h
  refine wpAny_Call_method m.base m.few m.line PySem.F.plainAttrs_dict PySem.F.slot_dict_get PySem.F.type_dict_get (thn (ho.run pins s σ H _ I h) ?_)
  rintro u s1 ⟨x, H1, I1, rx, a, rfl, ⟨_, _, g1⟩, q1⟩
  cases rx
  obtain ⟨t1, t2⟩ := og_at I1 g1
  refine ⟨t1, t2, ?_⟩
  rw [m.trees]
  refine Calls.callWith_builtin rfl (Calls.evalArgs_plain (Calls.spliced_cons (thn (he.run pins s1 σ H1 _ I1 q1) ?_)))
  rintro iv s2 ⟨y, H2, I2, ry, q2⟩
  refine Calls.spliced_cons (thn (hf.run pins s2 σ H2 _ I2 q2) ?_)
  rintro fv s3 ⟨z, H3, I3, rz, ov, g, q3⟩
  exact Calls.spliced_nil (og_get2 hu I3 g ry rz fun w' s4 I4 rw' => ⟨_, H3, I4, rw', q3⟩)

/-! {} -/
def tONew (P : Program) (w : World) : TE := fun _ H Q => ∀ p H', H p = none → H' p = some (NDo P w p []) → Same H H' → Q (.ref p) H'
def tPNew (P : Program) (w : World) : TE := fun _ H Q => ∀ p H', H p = none → PD P w H' p [] → Same H H' → Q (.ref p) H'
theorem ndo_empty {H : Hp} {h : Heap} {P : Program} {w : World} (hb : sysModules < h.objs.size) : ObjOk P w H (h.push { cls := .type "dict", data := .dict #[] }) h.objs.size (NDo P w h.objs.size []) := by
  refine ⟨⟨Nat.zero_le _, beq_eq_false_iff_ne.mpr (Ne.symm (Nat.ne_of_lt hb)), [], .nil, Heap.DictOf.new h⟩, ⟨_, Heap.get?_push_size _ rfl⟩, ?_⟩
  rintro h1 h2 ⟨z1, hd1, vs1, rel1, o1, es1, ep1, ho1, rest1⟩ st
  exact ⟨z1, hd1, vs1, rel1, o1, es1, ep1, st _ ho1, rest1⟩
theorem pdo_empty {H : Hp} {h : Heap} {P : Program} {w : World} (hb : sysModules < h.objs.size) : ObjOk P w H (h.push { cls := .type "dict", data := .dict #[] }) h.objs.size (PDo P w h.objs.size []) := by
  refine ⟨⟨Nat.zero_le _, beq_eq_false_iff_ne.mpr (Ne.symm (Nat.ne_of_lt hb)), [], .nil, _, #[], 0, Heap.get?_push_size _ rfl, ⟨rfl, rfl, rfl⟩, rfl, rfl, List.nodup_nil⟩, ⟨_, Heap.get?_push_size _ rfl⟩, ?_⟩
  rintro h1 h2 ⟨z1, hd1, vs1, rel1, o1, es1, ep1, ho1, rest1⟩ st
  exact ⟨z1, hd1, vs1, rel1, o1, es1, ep1, st _ ho1, rest1⟩
end
end GL

set_option Elab.async false
set_option linter.all false
set_option maxRecDepth 100000
set_option maxHeartbeats 2000000
/-! dict(pairs), whatever the keys are: the store is a letter. -/
namespace GL
open PySem PySem.Spec PyProof.Rows L2
section
variable {prog : Program} {w : World} {A : Around} {E : Value → Shared → Prop}
/-- how the new dict at S goes on, pair by pair: M tells of it behind so many of them -/
structure Fill (prog : Program) (w : World) (A : Around) (S : Addr) (prs : List (Value × Value)) (M : Nat → Heap → Prop) : Prop where
  keep : ∀ i h h' c, M i h → S < c → (∀ b o, b ≠ c → h.get? b = some o → h'.get? b = some o) → M i h'
  put : ∀ i p (s : Shared) (E : Value → Shared → Prop) (Q : Unit → Shared → Prop), prs[i]? = some p → M i s.heap → (∀ h' n, M (i + 1) h' → Heap.SameBut S s.heap h' → Q () { s with heap := h', toks := n }) →
    wpAny (model prog w) A (dictSet S p.1 p.2) Q E s
theorem fill_loop {R : Result → Shared → Prop} {S I l : Addr} {items : Array Value} {prs : List (Value × Value)} {M : Nat → Heap → Prop} {res : Value} (F : Fill prog w A.in1 S prs M) (hh : A.handled = none) (hlS : l < S) (hSI : S < I) (hsz : items.size = prs.length) :
    ∀ (left i : Nat) (ix : Int) (t : Tok) (s : Shared), i + left = prs.length →
      (∀ (j : Nat) (q : Value × Value), prs[j]? = some q → ∃ b : Addr, items[j]? = some (Value.ref b) ∧ b < S ∧ IsTup s.heap b #[q.1, q.2]) → s.heap.IsListIter I l i → s.heap.IsList l items → M i s.heap →
      (∀ h' tk, M prs.length h' → (∀ b o, b < S → s.heap.get? b = some o → h'.get? b = some o) → R (.ok (.ret res)) { s with heap := h', toks := tk }) →
      codeAny (model prog w) A (.builtin "dict.update.loop" ⟨[.ref S, .ref I, .int ix t, res], []⟩) R s
  | 0, i, ix, t, s, e, ht, hit, hl, m, hR => by
    have eI : i = prs.length := by omega
    subst eI
    refine codeAny_builtin ud_entry ?_
    rw [Around.under_plainId ud_plain _]
    show wpAny _ A.in1 (pyNext (.ref I) >>= _) _ _ s
    refine wpAny_bind (wpAny_pyNext_list_end (A := A.in1) hh hit hl (Array.getElem?_eq_none (Nat.le_of_eq hsz)) ?_)
    intro h' he
    show wpAny _ A.in1 (Builtin.Dict.addKeywords S [] >>= _) _ _ _
    refine wpAny_bind (wpAny_pure (wpAny_pure (hR h' s.toks ?_ ?_)))
    · exact F.keep _ _ _ I m hSI fun b o hb z => he b o hb z
    · exact fun b o hb z => he b o (Nat.ne_of_lt (Nat.lt_trans hb hSI)) z
  | left + 1, i, ix, t, s, e, ht, hit, hl, m, hR => by
    obtain ⟨q, hq⟩ : ∃ q, prs[i]? = some q := ⟨_, List.getElem?_eq_getElem (by omega)⟩
    obtain ⟨b, hb, hbS, htup⟩ := ht i q hq
    refine codeAny_builtin ud_entry ?_
    rw [Around.under_plainId ud_plain _]
    show wpAny _ A.in1 (pyNext (.ref I) >>= _) _ _ s
    refine wpAny_bind (wpAny_pyNext_list_item (x := .ref b) hit hl hb ?_)
    intro h1 hit1 hs1
    have x1 := hs1.extBut
    have ht1 : IsTup h1 b #[q.1, q.2] := htup.extBut x1 (Nat.ne_of_lt (Nat.lt_trans hbS hSI))
    have hl1 : h1.IsList l items := hl.extBut x1 (Nat.ne_of_lt (Nat.lt_trans hlS hSI))
    have m1 : M i h1 := F.keep _ _ _ I m hSI fun c o hc z => x1 c o hc z
    obtain ⟨o, ho, hc, n, hd⟩ := id ht1
    show wpAny _ A.in1 (holding [Value.ref b] _ >>= _) _ _ _
    refine wpAny_bind (wpAny_holding (wpAny_bind (wpAny_tryCatch ?_)))
    unfold Builtin.Dict.pairItems
    refine wpAny_bind (wpAny_typeOf (T := "tuple") ⟨o, ho, hc⟩ ?_)
    rw [if_pos (by first | decide | rfl | simp)]
    refine wpAny_bind (wpAny_seqItems ho hd (wpAny_pure ?_))
    show wpAny _ A.in1 (holding [q.1, q.2] (dictSet S q.1 q.2)) _ _ _
    refine wpAny_holding (F.put i q { s with heap := h1 } _ _ hq m1 ?_)
    intro h2 n2 m2 hs2
    have x2 := hs2.extBut
    refine wpAny_pure ⟨plainId_quiet ud_plain _, fill_loop F hh hlS hSI hsz left (i + 1) (ix + 1) 0 _ (by omega) ?_ ?_ ?_ m2 ?_⟩
    · intro j q' e'
      obtain ⟨b', hb', hbS', t'⟩ := ht j q' e'
      exact ⟨b', hb', hbS', (t'.extBut x1 (Nat.ne_of_lt (Nat.lt_trans hbS' hSI))).extBut x2 (Nat.ne_of_lt hbS')⟩
    · exact hit1.at fun o' z => x2 I o' (Nat.ne_of_gt hSI) z
    · exact hl1.extBut x2 (Nat.ne_of_lt hlS)
    · intro h' tk mm k
      exact hR h' tk mm fun c oc hcS z => k c oc hcS (x2 c oc (Nat.ne_of_lt hcS) (x1 c oc (Nat.ne_of_lt (Nat.lt_trans hcS hSI)) z))
/-- dict(l) of a list of pairs -/
theorem call_dict_fill {s : Shared} {l : Addr} {ol : Obj} {items : Array Value} {n : Nat} {prs : List (Value × Value)} {M : Nat → Heap → Prop} {Q : Value → Shared → Prop} (hh : A.handled = none) (hl : s.heap.get? l = some ol) (hc : ol.cls = .type "list")
    (hd : ol.dict = none) (hdat : ol.data = .seq items n) (hsz : items.size = prs.length) (ht : ∀ (j : Nat) (q : Value × Value), prs[j]? = some q → ∃ b : Addr, items[j]? = some (Value.ref b) ∧ IsTup s.heap b #[q.1, q.2])
    (F : Fill prog w A.in1.in1 s.heap.objs.size prs M ∧ Fill prog w A.in1 s.heap.objs.size prs M)
    (m0 : M 0 (s.heap.push { cls := .type "dict", data := .dict #[] }))
    (h : ∀ h' tk, M prs.length h' → (∀ b o, s.heap.get? b = some o → h'.get? b = some o) → Q (.ref s.heap.objs.size) { s with heap := h', toks := tk }) :
    wpAny (model prog w) A (call (.type "dict") [.ref l]) Q E s := by
  refine callType_codes (Q₁ := fun obj s₁ => obj = .ref s.heap.objs.size ∧ s₁ = { s with heap := s.heap.push { cls := .type "dict", data := .dict #[] } }) PySem.F.kt_called_dict (PySem.F.kt_typeCall_dict_1 _) PySem.F.entry_dict_init (kt_code_dict_new _ ⟨rfl, rfl⟩) ?_
  rintro obj s₁ ⟨rfl, rfl⟩
  have new : (s.heap.push { cls := .type "dict", data := .dict #[] }).get? s.heap.objs.size = some { cls := .type "dict", data := .dict #[] } := Heap.get?_push_size _ rfl
  have ty : ({ s with heap := s.heap.push { cls := .type "dict", data := .dict #[] } } : Shared).TypeIs (.ref s.heap.objs.size) "dict" := ⟨_, new, rfl⟩
  have k0 : ∀ b o, s.heap.get? b = some o → (s.heap.push { cls := .type "dict", data := .dict #[] }).get? b = some o := fun b o e => Heap.get?_push_of_some _ e
  refine ⟨ty, PySem.F.args_dict_init_2 _ _, ?_⟩
  unfold Builtin.«dict.__init__»
  refine wpAny_bind ?_
  unfold Builtin.Dict.selfAndRest
  refine wpAny_bind (wpAny_notOrdered_dict ty ?_)
  show wpAny _ _ (pure (s.heap.objs.size, [Value.ref l])) _ _ _
  refine wpAny_pure ?_
  show wpAny _ _ (Builtin.Dict.updateFrom "dict.__init__" s.heap.objs.size (.ref l) [] .none) _ _ _
  unfold Builtin.Dict.updateFrom
  refine wpAny_bind (wpAny_typeOf (T := "list") ⟨ol, k0 _ _ hl, hc⟩ ?_)
  rw [if_pos (by first | decide | rfl | simp)]
  refine wpAny_bind (miss_list (k0 _ _ hl) hc hdat hd hh ?_)
  intro h1 tk1 hk1
  rw [if_pos (show (none : Option Value).isNone = true from rfl)]
  refine wpAny_bind (wpAny_rule ?_)
  have hl1 : h1.IsList l items := ⟨ol, hk1 _ _ (k0 _ _ hl), hc, n, hdat⟩
  have hS1 : s.heap.objs.size < h1.objs.size := Heap.lt_size (hk1 _ _ new)
  refine wpAny_bind (wpAny_pyIter_list hl1 ?_)
  have k2 : ∀ b o, h1.get? b = some o → (h1.push { cls := .type "list_iterator", data := .fields #[.ref l, .int 0 0] }).get? b = some o := fun b o e => Heap.get?_push_of_some _ e
  have hlt : l < s.heap.objs.size := Heap.lt_size hl
  have m2 : M 0 (h1.push { cls := .type "list_iterator", data := .fields #[.ref l, .int 0 0] }) :=
    F.2.keep 0 _ _ h1.objs.size m0 hS1 fun b o _ e => k2 _ _ (hk1 _ _ e)
  have key := fill_loop (prog := prog) (w := w) (A := A.in1) (R := wants (fun r s₂ => r = .none ∧ Q (.ref s.heap.objs.size) s₂) E) (I := h1.objs.size) (res := Value.none) F.1 hh hlt hS1 hsz prs.length 0 0 0
    { s with heap := h1.push { cls := .type "list_iterator", data := .fields #[.ref l, .int 0 0] }, toks := tk1 } (by omega)
    (fun j q e => by
      obtain ⟨b, e1, e2⟩ := ht j q e
      exact ⟨b, e1, e2.lt, e2.keeps fun c o z => k2 _ _ (hk1 _ _ (k0 _ _ z))⟩)
    ⟨_, Heap.get?_push_size _ rfl, rfl, rfl⟩ (hl1.at fun o e => k2 _ _ e) m2
    (fun h' tk mm k => ⟨rfl, h h' tk mm fun b o e => k b o (Heap.lt_size e) (k2 _ _ (hk1 _ _ (k0 _ _ e)))⟩)
  first
    | exact wpAny_pure ⟨plainId_quiet ud_plain _, key⟩
    | exact wpAny_bind (wpAny_pure (wpAny_pure ⟨plainId_quiet ud_plain _, key⟩))
end
end GL

set_option Elab.async false
set_option linter.all false
set_option maxRecDepth 100000
set_option maxHeartbeats 2000000
namespace GL
open PySem PySem.Spec PyProof.Rows L2
/-- entries put one behind another -/
def puts {κ : Type} [DecidableEq κ] (acc : List (κ × V)) : List (κ × V) → List (κ × V)
  | [] => acc
  | kv :: r => puts (putK acc kv.1 kv.2) r
theorem puts_snoc {κ : Type} [DecidableEq κ] : ∀ (acc l : List (κ × V)) (kv : κ × V), puts acc (l ++ [kv]) = putK (puts acc l) kv.1 kv.2
  | _, [], _ => rfl
  | acc, x :: l, kv => puts_snoc (putK acc x.1 x.2) l kv
theorem puts_len {κ : Type} [DecidableEq κ] : ∀ (l acc : List (κ × V)), (puts acc l).length ≤ acc.length + l.length
  | [], acc => Nat.le_refl _
  | x :: l, acc => by
    have h1 := puts_len l (putK acc x.1 x.2)
    have h2 := length_putK acc x.1 x.2
    show (puts (putK acc x.1 x.2) l).length ≤ _
    simp only [List.length_cons]
    omega
theorem take_snoc {α : Type} {l : List α} {i : Nat} {x : α} (h : l[i]? = some x) : l.take (i + 1) = l.take i ++ [x] := by
  obtain ⟨hi, e⟩ := List.getElem?_eq_some_iff.mp h
  rw [← e]
  exact (List.take_append_getElem hi).symm
theorem is_keep {P : Program} {w : World} {h h' : Heap} {ks : List NK} {b : Addr} (i : (tupleKind (noneKind P w)).is h ks b) (k : ∀ o, h.get? b = some o → h'.get? b = some o) : (tupleKind (noneKind P w)).is h' ks b := by
  obtain ⟨o, its, n, h1, h2, h3, h4⟩ := i
  exact ⟨o, its, n, k _ h1, h2, h3, h4⟩
section
variable {X : Cx} {pins : List (Addr × Obj)} {σ : L2.St} {H : Hp} {s : Shared}
theorem vals_two {x y : V} {us : List Value} (r : Vals [x, y] us) : ∃ u v, us = [u, v] ∧ RelV x u ∧ RelV y v := by
  cases r with
  | cons h1 r => cases r with
    | cons h2 r =>
      cases r
      exact ⟨_, _, rfl, h1, h2⟩
/-- the pairs of a list as the machine has them -/
theorem prs_of {K : List (V × V)} {ps : List Addr} (I : L2.Inv X pins σ H s) (h : Paired (fun p kv => SqT X.K H p [kv.1, kv.2]) ps K) :
    ∃ prs : List (Value × Value), prs.length = ps.length ∧ Paired (fun kv q => RelV kv.1 q.1 ∧ RelV kv.2 q.2) K prs ∧
      ∀ (j : Nat) (q : Value × Value), prs[j]? = some q → ∃ b : Addr, (ps.map Value.ref)[j]? = some (Value.ref b) ∧ IsTup s.heap b #[q.1, q.2] := by
  induction h with
  | nil => exact ⟨[], rfl, .nil, fun j q e => by simp at e⟩
  | @cons p kv ps K h _ ih =>
    obtain ⟨prs, l, r, g⟩ := ih
    obtain ⟨its, rv, ht, _⟩ := I.tuple h
    obtain ⟨u, y, rfl, ru, ry⟩ := vals_two rv
    refine ⟨(u, y) :: prs, by simp [l], .cons ⟨ru, ry⟩ r, fun j q e => ?_⟩
    cases j with
    | zero =>
      cases e
      exact ⟨p, rfl, ht⟩
    | succ j =>
      obtain ⟨b, e1, e2⟩ := g j q (by simpa using e)
      exact ⟨b, by simpa using e1, e2⟩
theorem paired_at {α β : Type} {R : α → β → Prop} : ∀ {l : List α} {m : List β}, Paired R l m → ∀ {i : Nat} {y : β}, m[i]? = some y → ∃ x, l[i]? = some x ∧ R x y
  | _, _, .nil, _, _, e => by simp at e
  | _, _, .cons h t, 0, y, e => by cases e; exact ⟨_, rfl, h⟩
  | _, _, .cons h t, i + 1, y, e => by
    obtain ⟨x, e1, e2⟩ := paired_at t (i := i) (by simpa using e)
    exact ⟨x, by simpa using e1, e2⟩
/-- dict(l), keys None, numbers, texts -/
def rDictN (P : Program) (w : World) (K : PySem.W.Frag) : List V → Hp → VK → Prop := fun xs H Q => ∃ (a : Addr) (ps : List Addr) (kvs : List (NK × V)), xs = [.ref a] ∧ SqL K H a (ps.map V.ref) ∧
  Paired (fun p kv => SqT K H p [nV kv.1, kv.2]) ps kvs ∧ ∀ p H', H p = none → H' p = some (NDo P w p (puts [] kvs)) → Same H H' → Q (.ref p) H'
/-- dict(l), keys tuples of such -/
def rDictP (P : Program) (w : World) (K : PySem.W.Frag) : List V → Hp → VK → Prop := fun xs H Q => ∃ (a : Addr) (ps : List Addr) (kvs : List (List NK × Addr × V)), xs = [.ref a] ∧ SqL K H a (ps.map V.ref) ∧
  Paired (fun p kv => SqT K H p [.ref kv.2.1, kv.2.2] ∧ H kv.2.1 = some (.tup (kv.1.map nV))) ps kvs ∧
  ∀ p H', H p = none → PD P w H' p (puts [] (kvs.map fun x => (x.1, x.2.2))) → Same H H' → Q (.ref p) H'
theorem ref_list : ∀ {ps : List Addr} {us : List Value}, Vals (ps.map V.ref) us → us = ps.map Value.ref
  | [], us, r => by cases r; rfl
  | p :: ps, us, r => by
    cases r with
    | cons h t =>
      cases h
      exact congrArg _ (ref_list t)
theorem fresh_sys (I : L2.Inv X pins σ H s) : (s.heap.objs.size == sysModules) = false := beq_eq_false_iff_ne.mpr (Nat.ne_of_gt I.big)
theorem call_dictN (hc : X.calm = true) : CallR X (.type "dict") (rDictN X.prog X.w X.K) := by
  intro pins s σ H xs us Q I r q
  obtain ⟨a, ps, kvs, rfl, hq, hp, q⟩ := q
  cases r with
  | cons rx r2 =>
    cases r2
    cases rx
    obtain ⟨its, rv, pl, hz⟩ := I.list hq
    cases ref_list rv
    rw [List.length_map] at hz
    have hp' : Paired (fun p (kv : V × V) => SqT X.K H p [kv.1, kv.2]) ps (kvs.map fun kv => (nV kv.1, kv.2)) := by
      clear q hq hz rv pl
      induction hp with
      | nil => exact .nil
      | cons h _ ih => exact .cons h ih
    obtain ⟨prs, lp, rel, g⟩ := prs_of I hp'
    obtain ⟨o, n, ho, hcl, hd, hdat⟩ := pl
    have lk : kvs.length = prs.length := by have := Paired.length rel; rw [List.length_map] at this; exact this
    have fill : ∀ A, Fill X.prog X.w A s.heap.objs.size prs (fun i h => ∃ vs, KV (puts [] (kvs.take i)) vs ∧ h.DictOf (noneKind X.prog X.w) s.heap.objs.size vs) := by
      intro A
      refine ⟨?_, ?_⟩
      · rintro i h h' c ⟨vs, k1, k2⟩ hc' keep
        exact ⟨vs, k1, k2.at fun o e => keep _ o (Nat.ne_of_lt hc') e⟩
      · rintro i p s1 E1 Q1 hp1 ⟨vs, k1, k2⟩ hq1
        obtain ⟨x, hx, r1, r2⟩ := paired_at rel hp1
        rw [List.getElem?_map] at hx
        obtain ⟨kv, hkv, rfl⟩ := Option.map_eq_some_iff.mp hx
        have l1 := puts_len (kvs.take i) ([] : List (NK × V))
        have l2 : (kvs.take i).length ≤ kvs.length := by rw [List.length_take]; omega
        refine wpAny_dictSet_pairs (hsz := by rw [← k1.length]; simp only [List.length_nil] at l1; omega) (nV_is r1) k2 fun h' dd hs => hq1 h' _ ⟨_, ?_, dd⟩ hs
        rw [take_snoc hkv, puts_snoc]
        exact k1.put kv.1 r2
    refine call_dict_fill (I.ok.hd hc) ho hcl hd hdat (by simp [lp]) (fun j q e => by simpa using g j q e) ⟨fill _, fill _⟩ ⟨[], .nil, Heap.DictOf.new s.heap⟩ fun h' tk m keep => ?_
    obtain ⟨vs, k1, k2⟩ := m
    rw [← lk, List.take_length] at k1
    have l1 := puts_len kvs ([] : List (NK × V))
    have free := I.hok.fresh (Nat.le_refl s.heap.objs.size)
    refine ⟨.ref s.heap.objs.size, upd H s.heap.objs.size (NDo X.prog X.w s.heap.objs.size (puts [] kvs)), I.laid (t' := tk) keep (Nat.le_refl _) (nd_put (by simp only [List.length_nil] at l1; omega) (fresh_sys I) k1 k2), rfl, q _ _ free upd_same (same_new (Same.refl' H) free)⟩
theorem call_dictP' (hc : X.calm = true) (hu : X.A.units + 4 < cLine) : CallR X (.type "dict") (rDictP X.prog X.w X.K) := by
  intro pins s σ H xs us Q I r q
  obtain ⟨a, ps, kvs, rfl, hq, hp, q⟩ := q
  cases r with
  | cons rx r2 =>
    cases r2
    cases rx
    obtain ⟨its, rv, pl, hz⟩ := I.list hq
    cases ref_list rv
    rw [List.length_map] at hz
    have hp' : Paired (fun p (kv : V × V) => SqT X.K H p [kv.1, kv.2]) ps (kvs.map fun kv => (V.ref kv.2.1, kv.2.2)) := by
      clear q hq hz rv pl
      induction hp with
      | nil => exact .nil
      | cons h _ ih => exact .cons h.1 ih
    have ht : ∀ kv ∈ kvs, H kv.2.1 = some (.tup (kv.1.map nV)) := by
      clear q hq hz rv pl hp'
      induction hp with
      | nil => intro kv h; cases h
      | cons h _ ih =>
        intro kv hkv
        rcases List.mem_cons.mp hkv with rfl | hkv
        · exact h.2
        · exact ih kv hkv
    obtain ⟨prs, lp, rel, g⟩ := prs_of I hp'
    obtain ⟨o, n, ho, hcl, hd, hdat⟩ := pl
    have lk : kvs.length = prs.length := by have := Paired.length rel; rw [List.length_map] at this; exact this
    have old : ∀ b ys, H b = some (.tup ys) → b < s.heap.objs.size := fun b ys e => I.hok.lt e
    have fill : ∀ A : Around, A.units < cLine → Fill X.prog X.w A s.heap.objs.size prs (fun i h => (∀ kv ∈ kvs, (tupleKind (noneKind X.prog X.w)).is h kv.1 kv.2.1) ∧
        ∃ xs ys, xs.map (fun x => (x.1, x.2.2)) = puts [] ((kvs.take i).map fun x => (x.1, x.2.2)) ∧ (∀ x ∈ xs, H x.2.1 = some (.tup (x.1.map nV))) ∧ PR xs ys ∧ h.DictOfH (tupleKind (noneKind X.prog X.w)) s.heap.objs.size ys) := by
      intro A hA
      refine ⟨?_, ?_⟩
      · rintro i h h' c ⟨k0, xs, ys, k1, k2, k3, ob, es, ep, e1, e2, e3, e4, e5, e6⟩ hc' keep
        refine ⟨fun kv hkv => is_keep (k0 kv hkv) fun o e => keep _ o (Nat.ne_of_lt (Nat.lt_trans (old _ _ (ht kv hkv)) hc')) e, xs, ys, k1, k2, k3, ob, es, ep, keep _ _ (Nat.ne_of_lt hc') e1, e2, e3, e4, ?_, e6⟩
        have go : ∀ {xs : List PE3} {ys : List (List NK × Addr × Value)}, PR xs ys → (∀ x ∈ xs, H x.2.1 = some (.tup (x.1.map nV))) → ∀ y ∈ ys, y.2.1 < s.heap.objs.size := by
          intro xs ys q
          unfold PR at q
          induction q with
          | nil => intro _ y hy; cases hy
          | @cons p q ps qs h1 _ ih =>
            intro ht2 y hy
            rcases List.mem_cons.mp hy with rfl | hy
            · rw [← h1.2.1]; exact old _ _ (ht2 p (List.mem_cons_self ..))
            · exact ih (fun x hx => ht2 x (List.mem_cons_of_mem _ hx)) y hy
        exact fun y hy => is_keep (e5 y hy) fun o e => keep _ o (Nat.ne_of_lt (Nat.lt_trans (go k3 k2 y hy) hc')) e
      · rintro i p s1 E1 Q1 hp1 ⟨k0, xs, ys, k1, k2, k3, k4⟩ hq1
        obtain ⟨x, hx, r1, r2⟩ := paired_at rel hp1
        rw [List.getElem?_map] at hx
        obtain ⟨kv, hkv, rfl⟩ := Option.map_eq_some_iff.mp hx
        have mem := List.mem_of_getElem? hkv
        have l1 := puts_len ((kvs.take i).map fun x => (x.1, x.2.2)) ([] : List (List NK × V))
        have l2 : ((kvs.take i).map fun x => (x.1, x.2.2)).length ≤ kvs.length := by rw [List.length_map, List.length_take]; omega
        have l3 : xs.length = (puts [] ((kvs.take i).map fun x => (x.1, x.2.2))).length := by rw [← k1, List.length_map]
        have l4 := Paired.length k3
        obtain ⟨p1, p2⟩ := p
        cases (show p1 = Value.ref kv.2.1 from r1)
        refine wpAny_dictSet_heap (hsz := by simp only [List.length_nil] at l1; omega) hA (k0 kv mem) k4 fun h' dd hs => hq1 h' _ ⟨fun kv' hkv' => is_keep (k0 kv' hkv') fun o e => hs.extBut _ o (Nat.ne_of_lt (old _ _ (ht kv' hkv'))) e, putE xs kv.1 kv.2.1 kv.2.2, _, ?_, putE_tups k2 (ht kv mem), k3.put kv.1 r2, dd⟩ hs
        rw [putE_kvs, k1, take_snoc hkv, List.map_append, List.map_cons, List.map_nil, puts_snoc]
    refine call_dict_fill (I.ok.hd hc) ho hcl hd hdat (by simp [lp]) (fun j q e => by simpa using g j q e) ⟨fill _ (by show X.A.units + 1 + 1 < cLine; omega), fill _ (by show X.A.units + 1 < cLine; omega)⟩ ⟨fun kv hkv => ?_, [], [], rfl, (fun x hx => by cases hx), .nil, Heap.DictOfH.new s.heap⟩ fun h' tk m keep => ?_
    · exact is_keep (nkey_of I (ht kv hkv)) fun o e => Heap.get?_push_of_some _ e
    obtain ⟨_, xs, ys, k1, k2, k3, k4⟩ := m
    rw [← lk, List.take_length] at k1
    have l1 := puts_len (kvs.map fun x => (x.1, x.2.2)) ([] : List (List NK × V))
    have l3 : xs.length = (puts [] (kvs.map fun x => (x.1, x.2.2))).length := by rw [← k1, List.length_map]
    have free := I.hok.fresh (Nat.le_refl s.heap.objs.size)
    refine ⟨.ref s.heap.objs.size, upd H s.heap.objs.size (PDo X.prog X.w s.heap.objs.size xs), I.laid (t' := tk) keep (Nat.le_refl _) (pdo_put (by simp only [List.length_nil, List.length_map] at l1; omega) (fresh_sys I) k3 k4), rfl,
      q _ _ free ⟨xs, upd_same, k1, fun x hx => ?_⟩ (same_new (Same.refl' H) free)⟩
    rw [upd_ne (ne_of_none (k2 x hx) free)]
    exact k2 x hx
/-- {} -/
theorem pe_onew {pos : Pos} : PE X (.Dict [] [] pos) (tONew X.prog X.w) := by
  constructor
  intro pins s σ H Q I h
  have free := I.hok.fresh (Nat.le_refl s.heap.objs.size)
  exact wpAny_Dict_empty ⟨.ref s.heap.objs.size, _, I.laid (t' := s.toks) (fun _ _ q => Heap.get?_push_of_some _ q) (Nat.le_refl _) (ndo_empty I.big), rfl, h _ _ free upd_same (same_new (Same.refl' H) free)⟩
theorem pe_pnew {pos : Pos} : PE X (.Dict [] [] pos) (tPNew X.prog X.w) := by
  constructor
  intro pins s σ H Q I h
  have free := I.hok.fresh (Nat.le_refl s.heap.objs.size)
  exact wpAny_Dict_empty ⟨.ref s.heap.objs.size, _, I.laid (t' := s.toks) (fun _ _ q => Heap.get?_push_of_some _ q) (Nat.le_refl _) (pdo_empty I.big), rfl, h _ _ free ⟨[], upd_same, rfl, fun x hx => by cases hx⟩ (same_new (Same.refl' H) free)⟩
end
end GL

set_option Elab.async false
set_option linter.all false
set_option maxRecDepth 100000
set_option maxHeartbeats 4000000
/-! Dict comprehensions that make such dicts. -/
namespace GL
open PySem PySem.Spec PyProof.Rows L2

/-- the new dict's object as it is told -/
structure Starts (P : Program) (w : World) (N : Addr → HO) : Prop where
  ok : ∀ (H : Hp) (h : Heap), sysModules < h.objs.size → ObjOk P w H (h.push { cls := .type "dict", data := .dict #[] }) h.objs.size (N h.objs.size)
theorem starts_n {P : Program} {w : World} : Starts P w (fun a => NDo P w a []) := ⟨fun _ _ hb => ndo_empty hb⟩
theorem starts_p {P : Program} {w : World} : Starts P w (fun a => PDo P w a []) := ⟨fun _ _ hb => pdo_empty hb⟩
/-- what a turn that lets its item asks -/
abbrev OcTurn (P : Program) (w : World) (D : Addr) (σ : L2.St) (vs : List Nat) (g : TG) (tt : TT) (tk tv : TE) (x : V) (H : Hp) (Nx : Hp → Prop) : Prop :=
  g x (wipe σ vs) H fun σ2 H2 => wipe σ2 vs = wipe σ vs ∧ tt σ2 H2 fun b H3 => if b = true then tk σ2 H3 fun y H4 => tv σ2 H4 fun z H5 => OPut P w H5 D y z Nx else Nx H3
def tOc (P : Program) (w : World) (N : Addr → HO) (wi : TI) (g : TG) (tt : TT) (tk tv : TE) (vs : List Nat) : TE := fun σ H Q =>
  wi σ H fun J H1 => ∀ D H2, H1 D = none → H2 D = some (N D) → Same H1 H2 → ∃ Wl : Nat → Nat → Hp → Prop, (∃ m, Wl 0 m H2) ∧ ∀ i m H, Wl i m H →
    (J.stop i H ∧ Q (.ref D) H) ∨ (J.go i H ∧ ∃ Nx : Hp → Prop, (∀ H', Nx H' → ∃ m', m' < m ∧ Wl (i + 1) m' H') ∧ ∀ x H', J.yld i H x H' → OcTurn P w D σ vs g tt tk tv x H' Nx)

section
variable {X : Cx}
/-- a clause of a comprehension, told of all blocks that stand for it -/
structure Block (X : Cx) (kx vx tg iter : Expr) (ifs : List Expr) (scope : Scope) (own : List (Str × Nat)) (wi : TI) (g : TG) (tt : TT) (tk tv : TE) : Prop where
  calm : X.calm = true
  nd : X.N.Nodup
  it : PI X tg iter wi
  blk : BlkOk X.N X.env.scope scope own
  tg : ∀ s H C cl fp, PG (X.blk s H scope (compEnvC scope cl C X.env) fp) tg g
  ifs : ∀ s H C cl fp, PTs (X.blk s H scope (compEnvC scope cl C X.env) fp) ifs tt
  key : ∀ s H C cl fp, PE (X.blk s H scope (compEnvC scope cl C X.env) fp) kx tk
  val : ∀ s H C cl fp, PE (X.blk s H scope (compEnvC scope cl C X.env) fp) vx tv
  fold : ∀ x, foldedSetIterable iter X.env x = pure x
  room : X.A.units < cLine

theorem oc_core {pins : List (Addr × Obj)} {s : Shared} {σ : L2.St} {H : Hp} {Q : VK} {kx vx tg iter : Expr} {ifs : List Expr} {scope : Scope} {own : List (Str × Nat)} {pos pos' : Pos} {wi : TI} {g : TG} {tt : TT} {tk tv : TE}
    {use : Option (Value → Sem Unit)} {Qf : Value → Shared → Prop} {N : Addr → HO} (B : Block X kx vx tg iter ifs scope own wi g tt tk tv) (S : Starts X.prog X.w N) (I : L2.Inv X pins σ H s)
    (h : tOc X.prog X.w N wi g tt tk tv (own.map (·.2)) σ H Q)
    (back : ∀ D C s' m H', L2.Inv X pins σ H' s' → Q (.ref D) H' → s'.heap.Ns C m → FpOk X pins H' C → compPost (model X.prog X.w) X.A X.xe use Qf (.ref D) C (.ok .next) s') :
    wpAny (model X.prog X.w) X.A (comprehension (.DictComp kx vx [⟨tg, iter, ifs, 0⟩] scope pos) scope X.env pos' newDict false (eval iter X.env) use) Qf X.xe s := by
  have seen : ∀ y ∈ scope.names, y.2 = .free → ∃ c, X.env.cells.lookup y.1 = some c := by
    intro y hy e
    exact I.ok.has _ (B.blk.free y hy e)
  refine wpAny_comprehension_free (use := use) rfl B.fold (closure_ok seen) B.blk.kind (fun y hy e => by rw [B.blk.uniq y hy, e]) ?_
  refine thn (B.it.run pins s σ H _ I h) ?_
  intro xv s1 hx
  refine thn hx ?_
  rintro itv s2 ⟨it, fp, tn, J, H2, rfl, I2, T, st2, f2, q⟩
  refine wpAny_newObj_type (newEnv_comp ?_)
  -- the new dict stands at D
  obtain ⟨D, eD⟩ : ∃ D, D = s2.heap.objs.size := ⟨_, rfl⟩
  rw [← eD]
  have free : H2 D = none := I2.hok.fresh (Nat.le_of_eq eD.symm)
  generalize es3' : ({ s2 with heap := s2.heap.push { cls := .type "dict", data := .dict #[] } } : Shared) = s3
  have es3 := es3'.symm
  obtain ⟨H3, eH3⟩ : ∃ H3, H3 = upd H2 D (N D) := ⟨_, rfl⟩
  have at3 : H3 D = some (N D) := by rw [eH3]; exact upd_same
  have sm3 : Same H2 H3 := by rw [eH3]; exact same_new (Same.refl' H2) free
  obtain ⟨Wl, ⟨m0, w0⟩, turn⟩ := q D H3 free at3 sm3
  have hp3 : s3.heap = s2.heap.push { cls := .type "dict", data := .dict #[] } := by rw [es3]
  have I3 : L2.Inv X pins σ H3 s3 := by
    rw [eH3, es3, eD]
    exact I2.laid (t' := s2.toks) (fun b o e => Heap.get?_push_of_some _ e) (Nat.le_refl _) (S.ok _ _ I2.big)
  have old : ∀ b ∈ fp, b < s2.heap.objs.size := by
    intro b hb
    obtain ⟨o, e, _⟩ := T.obj _ _ st2 b hb
    exact Heap.lt_size e
  have f3 : ∀ b ∈ fp, FpOk X pins H3 b ∧ b < s3.heap.objs.size := by
    intro b hb
    refine ⟨⟨?_, (f2 b hb).2⟩, ?_⟩
    · rw [eH3, upd_ne (by rw [eD]; exact Nat.ne_of_lt (old b hb))]
      exact (f2 b hb).1
    · rw [hp3, Heap.size_push]
      exact Nat.lt_succ_of_lt (old b hb)
  have st3 : tn 0 s3.heap := by
    rw [hp3]
    exact T.keep _ _ _ st2 fun b _ o e => Heap.get?_push_of_some _ e
  have I4 := block_start I3 B.blk B.nd f3
  obtain ⟨ce, ece⟩ : ∃ ce, ce = compEnvC scope (cellsFrom (s3.heap.objs.size + 1) scope.names (cloFrom X.env.cells scope.names [])) s3.heap.objs.size X.env := ⟨_, rfl⟩
  have pg : PG (X.blk s3 H3 scope ce fp) tg g := by rw [ece]; exact B.tg ..
  have pt : PTs (X.blk s3 H3 scope ce fp) ifs tt := by rw [ece]; exact B.ifs ..
  have pk : PE (X.blk s3 H3 scope ce fp) kx tk := by rw [ece]; exact B.key ..
  have pv : PE (X.blk s3 H3 scope ce fp) vx tv := by rw [ece]; exact B.val ..
  have cL : ce.locals = s3.heap.objs.size := by rw [ece]; rfl
  rw [← ece] at I4
  show codeAny _ _ (.compStart (.DictComp kx vx [⟨tg, iter, ifs, 0⟩] scope pos) 0 (.ref it) (.ref D) (compEnvC scope (cellsFrom (s3.heap.objs.size + 1) scope.names (cloFrom X.env.cells scope.names [])) s3.heap.objs.size X.env))
    (compPost (model X.prog X.w) X.A X.xe use Qf (.ref D) s3.heap.objs.size) { s3 with heap := pushCells (s3.heap.push { cls := .type "dict", data := .dict #[] }) scope.names }
  rw [← ece]
  obtain ⟨s4, es4⟩ : ∃ s4 : Shared, s4 = { s3 with heap := pushCells (s3.heap.push { cls := .type "dict", data := .dict #[] }) scope.names } := ⟨_, rfl⟩
  rw [← es4] at I4 ⊢
  have st4 : tn 0 s4.heap := by
    rw [es4]
    exact T.keep _ _ _ st3 fun b _ o e => pushCells_keeps _ _ _ _ (Heap.get?_push_of_some _ e)
  have nfp : ∀ b ∈ fp, H3 b = none := fun b hb => (f3 b hb).1.1
  have ownIt : ∀ {σ' : L2.St} {H' : Hp} {s' : Shared}, L2.Inv (X.blk s3 H3 scope ce fp) [] σ' H' s' → (∀ b ∈ fp, H' b = none) → ∀ b ∈ fp, FpOk (X.blk s3 H3 scope ce fp) [] H' b := by
    intro σ' H' s' I' n b hb
    refine ⟨n b hb, (I'.ok.exf b hb).1, I'.ok.exfs b hb, .inl hb, fun x c e => (I'.ok.exf b hb).2 x c e, fun p hp => ?_⟩
    exact absurd (show p ∈ ([] : List (Addr × Obj)) ++ [] from hp) (by simp)
  have loop : codeAny (model X.prog X.w) X.A (.compLoop (.DictComp kx vx [⟨tg, iter, ifs, 0⟩] scope pos) 0 (.ref it) (.ref D) ce) (compPost (model X.prog X.w) X.A X.xe use Qf (.ref D) s3.heap.objs.size) s4 := by
    refine compLoop_anyD (fun n s' => ∃ i H', L2.Inv (X.blk s3 H3 scope ce fp) [] (wipe σ (own.map (·.2))) H' s' ∧ tn i s'.heap ∧ (∀ b ∈ fp, H' b = none) ∧ Wl i n H') ?_ m0 ⟨0, H3, I4, st4, nfp, w0⟩
    rintro n s5 ⟨i, H5, I5, st5, n5, w5⟩
    rcases turn i n H5 w5 with ⟨stop, qq⟩ | ⟨go, Nx, hNx, step⟩
    · refine thnF (T.done (X.blk s3 H3 scope ce fp) rfl rfl rfl B.calm i [] s5 _ H5 (fun _ _ => False) I5 (ownIt I5 n5) st5 stop) ?_
      rintro r s6 ⟨rfl, I6⟩
      have I7 : L2.Inv X pins σ H5 s6 := by
        refine I3.call' (ch := fp) I6.os I6.base I6.hok I6.bare fun b hb => ?_
        obtain ⟨⟨_, b1, b2, b3, b4, b5⟩, _⟩ := f3 b hb
        exact ⟨b3, b1, b4, b5⟩
      have nC : H5 s3.heap.objs.size = none := by
        have z : H5 ce.locals = none := I6.free
        exact cL ▸ z
      obtain ⟨m, hn, _⟩ := I6.loc
      have hn : s6.heap.Ns ce.locals m := hn
      rw [cL] at hn
      exact back D _ s6 m H5 I7 qq hn (I3.fpOk (Nat.le_refl _) nC)
    · refine thnF (T.item (X.blk s3 H3 scope ce fp) rfl rfl rfl B.calm i [] s5 _ H5 (fun _ _ => False) I5 (ownIt I5 n5) st5 go) ?_
      rintro r s6 ⟨u, rfl, h6⟩
      refine thnF h6 ?_
      rintro _ s7 ⟨x, H7, I7, r7, y7, st7, n7⟩
      refine thnF (pg.run _ s7 _ H7 x u _ (I7.pinned (ownIt I7 n7) (T.obj _ _ st7)) r7 (step x H7 y7)) ?_
      rintro _ s8 ⟨σ8, H8, I8, hw8, q8⟩
      refine thnF (pt.run _ s8 σ8 H8 _ I8 q8) ?_
      rintro b s9 ⟨H9, I9, q9⟩
      have fin : ∀ {s' : Shared} {H' : Hp}, L2.Inv (X.blk s3 H3 scope ce fp) ([] ++ pinsAt fp s7.heap) σ8 H' s' → Nx H' →
          ∃ m, m < n ∧ ∃ i H', L2.Inv (X.blk s3 H3 scope ce fp) [] (wipe σ (own.map (·.2))) H' s' ∧ tn i s'.heap ∧ (∀ b ∈ fp, H' b = none) ∧ Wl i m H' := by
        intro s' H' I' nx
        obtain ⟨m', hm, w'⟩ := hNx H' nx
        have pin : ∀ b ∈ fp, ∀ o, s7.heap.get? b = some o → s'.heap.get? b = some o ∧ H' b = none := by
          intro b hb o e
          have z := I'.pin (b, o) (List.mem_append_right _ (List.mem_append_right _ (mem_pinsAt hb e)))
          exact ⟨z.1, z.2.1⟩
        refine ⟨m', hm, i + 1, H', (I'.unpinned (pins := [])).weak (by rw [← hw8, wipe_length]) ?_, ?_, ?_, w'⟩
        · intro j v e
          rw [← hw8] at e
          exact (wipe_some e).1
        · exact T.keep _ _ _ st7 fun b hb o e => (pin b hb o e).1
        · intro b hb
          obtain ⟨o, e, _⟩ := T.obj _ _ st7 b hb
          exact (pin b hb o e).2
      cases b with
      | false =>
        simp only [Bool.false_eq_true, if_false] at q9 ⊢
        exact fin I9 q9
      | true =>
        simp only [if_true] at q9 ⊢
        refine thnF (pk.run _ s9 σ8 H9 _ I9 q9) ?_
        rintro z s10 ⟨yk, H10, I10, r10, q10⟩
        refine thnF (pv.run _ s10 σ8 H10 _ I10 q10) ?_
        rintro z2 s11 ⟨yv, H11, I11, r11, put⟩
        exact og_dictSet (X := X.blk s3 H3 scope ce fp) B.room I11 put r10 r11 fun H12 s12 nx I12 => fin I12 nx
  exact codeAny_compStart_dict loop (T.self X.A 0 _ _ _ st4 loop)

/-- as a value -/
theorem pe_oc {kx vx tg iter : Expr} {ifs : List Expr} {scope : Scope} {own : List (Str × Nat)} {pos : Pos} {wi : TI} {g : TG} {tt : TT} {tk tv : TE} {N : Addr → HO} (B : Block X kx vx tg iter ifs scope own wi g tt tk tv) (S : Starts X.prog X.w N) :
    PE X (.DictComp kx vx [⟨tg, iter, ifs, 0⟩] scope pos) (tOc X.prog X.w N wi g tt tk tv (own.map (·.2))) := by
  constructor
  intro pins s σ H Q I h
  rw [arm_eval_DictComp]
  refine oc_core B S I h ?_
  intro D C s' m H' I' q hn f
  refine ⟨m, hn, fun h'' sb => ?_⟩
  obtain ⟨f0, f1, f2, f3, f4, f5⟩ := f
  exact ⟨.ref D, H', I'.turned (t' := s'.toks) (fun b o hb e => (sb.2 b hb).trans e) f0 f1 f3 f4 f5, rfl, q⟩
/-- y = {..}, y a local -/
theorem ps_setOc {i : Nat} {y : Str} {py : Pos} {kx vx tg iter : Expr} {ifs : List Expr} {scope : Scope} {own : List (Str × Nat)} {pos spos : Pos} {wi : TI} {g : TG} {tt : TT} {tk tv : TE} {N : Addr → HO} (hy : X.N[i]? = some y)
    (hyl : X.env.scope.names.lookup y = some .local) (hsw : swapsWith (.DictComp kx vx [⟨tg, iter, ifs, 0⟩] scope pos) (some (.Name y py)) spos.line X.env = pure true) (B : Block X kx vx tg iter ifs scope own wi g tt tk tv) (S : Starts X.prog X.w N) :
    PS X (.Assign [.Name y py] (.DictComp kx vx [⟨tg, iter, ifs, 0⟩] scope pos) spos) (tAsg (tOc X.prog X.w N wi g tt tk tv (own.map (·.2))) (gName i)) := by
  constructor
  intro pins s σ H D I h
  rw [exec_Assign_Name_used _ _ _ _ hsw]
  refine wpAny_bind (wpAny_standAt (wpAny_bind ?_))
  show wpAny _ X.A (do let _ ← comprehension (.DictComp kx vx [⟨tg, iter, ifs, 0⟩] scope pos) scope X.env (firstIterPos [⟨tg, iter, ifs, 0⟩] pos) newDict false (eval iter X.env) (some (assign (.Name y py) X.env))) _ _ s
  have h' : tOc X.prog X.w N wi g tt tk tv (own.map (·.2)) σ H (fun x H1 => gName i x σ H1 D.nx) := h
  refine wpAny_bind (thn (oc_core (Qf := fun _ s' => SP X pins D .next s') B S I h' ?_) fun _ s' hq => wpAny_pure (wpAny_pure hq))
  intro L C s' m H' I' q hn f
  show wpAny _ _ (assign (.Name y py) X.env (.ref L)) _ _ _
  refine wpAny_assign_Name (store_ok2 (v := V.ref L) I' B.nd hy (.inl hyl) rfl ?_ (.inr hyl))
  rintro s2 I2 ⟨a, sb, ha⟩
  obtain ⟨f0, f1, f2, f3, f4, f5⟩ := f
  have haC : C ≠ a := by
    rcases ha with z | z
    · rw [z]; exact f1
    · exact fun e => f4 y a z e.symm
  refine ⟨m, hn.sameBut sb haC, fun h3 sb3 => ⟨_, H', I2.turned (t' := s2.toks) (fun b o hb e => (sb3.2 b hb).trans e) f0 f1 f3 f4 f5, q⟩⟩
end
end GL

set_option Elab.async false
set_option linter.all false
set_option maxRecDepth 100000
set_option maxHeartbeats 4000000
/-! == of two dicts whose keys are tuples, whose values are numbers. -/
namespace GL
open PySem PySem.Spec PyProof.Rows L2
def numOf : Value → Int
  | .int i _ => i
  | _ => 0
section
variable {prog : Program} {w : World} {K : Type} [DecidableEq K] {knd : HeapKind prog w K} {A : Around} {E : Value → Shared → Prop} {s : Shared}
def hitH (ys : List (K × Addr × Value)) (x : K × Addr × Value) : Bool := match atKey ys x.1 with
  | some p => numOf x.2.2 == numOf p.2
  | none => false
theorem same_heap {nm : String} {a b : Addr} {xs ys : List (K × Addr × Value)} {Q : Bool → Shared → Prop} (hu : knd.room A) (ha : (a == sysModules) = false) (hb : (b == sysModules) = false)
    (da : s.heap.DictOfH knd a xs) (db : s.heap.DictOfH knd b ys) (na : ∀ x ∈ xs, ∃ i t, x.2.2 = .int i t) (nb : ∀ y ∈ ys, ∃ i t, y.2.2 = .int i t)
    (h : Q (xs.length == ys.length && xs.all (hitH ys)) s) : wpAny (model prog w) A (Builtin.Dict.samePairs nm a b) Q E s := by
  obtain ⟨oa, es, ep, hoa, _, hda, hea, hia, hna⟩ := da
  obtain ⟨ob, fs, ep', hob, _, hdb, heb, hib, hnb⟩ := db
  have la : es.size = xs.length := size_of_entries hea
  have lb : fs.size = ys.length := size_of_entries heb
  unfold Builtin.Dict.samePairs Builtin.Dict.showsAll
  rw [if_neg (by rw [ha]; exact Bool.false_ne_true), if_neg (by rw [hb]; exact Bool.false_ne_true)]
  refine wpAny_bind (wpAny_pure (wpAny_bind (wpAny_pure (wpAny_bind (wpAny_dictEntries hoa hda ?_)))))
  dsimp only
  refine wpAny_bind (wpAny_dictEntries hob hdb ?_)
  by_cases hsz : es.size = fs.size
  · have e1 : (xs.length == ys.length) = true := by rw [← la, ← lb, hsz]; simp
    rw [e1, Bool.true_and] at h
    rw [if_neg (by rw [hsz]; simp)]
    refine wpAny_bind (wpAny_dictEpoch hoa hda (wpAny_bind ?_))
    rw [Std.Legacy.Range.forIn_eq_forIn_range']
    simp only [Std.Legacy.Range.size, Nat.sub_zero, Nat.add_sub_cancel, Nat.div_one]
    refine wpAny_forIn_list _ (fun rest q s' => s' = s ∧ q = (none, ()) ∧ ∃ i, rest = List.range' i (es.size - i) ∧ i ≤ es.size ∧ (xs.take i).all (hitH ys) = true) _ ?_ ?_ _ _ ⟨rfl, rfl, 0, by simp, Nat.zero_le _, rfl⟩
    · rintro x rest q s' ⟨rfl, rfl, i, hr, hi, pre⟩
      have lt : i < es.size := by
        apply Nat.lt_of_not_le
        intro c
        rw [Nat.sub_eq_zero_of_le c] at hr
        cases hr
      have step : es.size - i = (es.size - (i + 1)) + 1 := by omega
      rw [step, List.range'_succ] at hr
      injection hr with hx hrest
      subst hx
      have ltx : x < xs.length := by omega
      have ex : xs[x]? = some xs[x] := List.getElem?_eq_getElem ltx
      have een : es[x]? = some (entryOfKey knd xs[x]) := by rw [entry_at hea, ex]; rfl
      refine wpAny_bind (wpAny_dictEntries hoa hda ?_)
      rw [een]
      obtain ⟨q0, hkv⟩ : ∃ q0, xs[x] = q0 := ⟨_, rfl⟩
      have mem : q0 ∈ xs := hkv ▸ List.getElem_mem ltx
      rw [hkv] at ex ⊢
      obtain ⟨k, ad, v⟩ := q0
      obtain ⟨n1, t1, ev⟩ := na _ mem
      dsimp only at ev
      subst ev
      show wpAny _ _ (holding [Value.ref ad, Value.int n1 t1] _ >>= _) _ _ _
      have nextOk : (hitH ys (k, ad, .int n1 t1)) = true → (xs.take (x + 1)).all (hitH ys) = true := by
        intro c
        rw [take_snoc (x := (k, ad, .int n1 t1)) ex, List.all_append, pre]
        simpa using c
      have endNo : (hitH ys (k, ad, .int n1 t1)) = false → xs.all (hitH ys) = false := by
        intro c
        cases z : xs.all (hitH ys) with
        | false => rfl
        | true =>
          have := List.all_eq_true.mp z _ mem
          rw [c] at this
          cases this
      refine wpAny_bind (wpAny_holding (wpAny_bind (wpAny_dictFind_heap hu (hia _ mem) hob hdb heb hib hnb ?_ ?_)))
      · intro no
        have c : hitH ys (k, ad, .int n1 t1) = false := by
          unfold hitH
          rw [atKey_none_of_get no]
        rw [endNo c] at h
        refine wpAny_pure ?_
        show wpAny _ _ (if (!false) = true then _ else _) _ _ _
        rw [if_pos (by decide)]
        exact wpAny_pure (wpAny_pure h)
      · intro j p hj
        obtain ⟨n2, t2, ep2⟩ := nb _ (List.mem_of_getElem? hj)
        obtain ⟨pa, pv⟩ := p
        dsimp only at ep2
        subst ep2
        have fen : fs[j]? = some (entryOfKey knd (k, pa, .int n2 t2)) := by rw [entry_at heb, hj]; rfl
        have c : hitH ys (k, ad, .int n1 t1) = (n1 == n2) := by
          unfold hitH
          rw [atKey_of_get hnb hj]
          rfl
        refine wpAny_bind (wpAny_dictEntries hob hdb ?_)
        rw [fen]
        refine wpAny_holding (SeqAt.EqAt.int_int n1 t1 n2 t2 prog w _ _ ?_)
        cases z : (n1 == n2) with
        | false =>
          rw [endNo (c.trans z)] at h
          show wpAny _ _ (if (!false) = true then _ else _) _ _ _
          rw [if_pos (by decide)]
          exact wpAny_pure (wpAny_pure h)
        | true =>
          show wpAny _ _ (if (!true) = true then _ else _) _ _ _
          rw [if_neg (by decide)]
          refine wpAny_bind (wpAny_dictEpoch hoa hda ?_)
          rw [if_neg (by simp)]
          exact wpAny_pure ⟨rfl, rfl, x + 1, hrest, lt, nextOk (c.trans z)⟩
    · rintro q s' ⟨rfl, rfl, i, hr, hi, pre⟩
      have e : i = es.size := by
        apply Nat.le_antisymm hi
        apply Nat.le_of_not_lt
        intro c
        rw [show es.size - i = (es.size - (i + 1)) + 1 by omega, List.range'_succ] at hr
        cases hr
      rw [e, la, List.take_length] at pre
      rw [pre] at h
      exact wpAny_pure h
  · have e1 : (xs.length == ys.length) = false := by rw [← la, ← lb]; simpa using hsz
    rw [e1, Bool.false_and] at h
    rw [if_pos (by simpa using hsz)]
    exact wpAny_bind (wpAny_rule (wpAny_pure h))
theorem eq_heap {a b : Addr} {xs ys : List (K × Addr × Value)} {Q : Value → Shared → Prop} (hu : A.units < cLine) (hr : knd.room A.in1) (ha : (a == sysModules) = false) (hb : (b == sysModules) = false)
    (da : s.heap.DictOfH knd a xs) (db : s.heap.DictOfH knd b ys) (na : ∀ x ∈ xs, ∃ i t, x.2.2 = .int i t) (nb : ∀ y ∈ ys, ∃ i t, y.2.2 = .int i t)
    (h : Q (.bool (xs.length == ys.length && xs.all (hitH ys))) s) : wpAny (model prog w) A (compareOp .Eq (.ref a) (.ref b)) Q E s := by
  have ta := da.typeIs
  have tb := db.typeIs
  refine wpAny_richCompare_same_room (op := .Eq) ta tb PySem.F.slot_dict_eq (wpAny_call_entry PySem.F.slot_dict_eq ta PySem.F.entry_dict_eq ?_ (PySem.F.args_dict_eq_2 _ _)) hu
  show wpAny _ _ (Builtin.Dict.dictSlotArgs "__eq__" ⟨[.ref a, .ref b], []⟩ >>= _) _ _ s
  refine wpAny_bind ?_
  unfold Builtin.Dict.dictSlotArgs
  refine wpAny_bind (wpAny_notOrdered_dict ta ?_)
  show wpAny _ _ (pure (Value.ref a, Value.ref b)) _ _ s
  refine wpAny_pure (wpAny_bind (wpAny_isInstance (T := "dict") tb PySem.F.sub_dict_dict ?_))
  simp only [Bool.not_true, Bool.false_eq_true, if_false]
  refine wpAny_bind (wpAny_pure (wpAny_bind (wpAny_pure (wpAny_bind (same_heap hr ha hb da db na nb ?_)))))
  refine wpAny_pure ⟨_, rfl, (by intro q; cases q), ?_⟩
  simpa using h
end
def rEqPD (P : Program) (w : World) : R2 := fun x y H Q => ∃ a b, ∃ ks ls : List (List NK × V), x = .ref a ∧ y = .ref b ∧ PD P w H a ks ∧ PD P w H b ls ∧ (∀ p ∈ ks, ∃ i, p.2 = .int i) ∧ (∀ p ∈ ls, ∃ i, p.2 = .int i) ∧
  Q (.bl (ks.length == ls.length && ks.all fun p => decide (valV ls p.1 = some p.2))) H
section
variable {X : Cx}
theorem PR.ints : ∀ {xs : List PE3} {ys : List (List NK × Addr × Value)}, PR xs ys → (∀ p ∈ xs.map (fun x => (x.1, x.2.2)), ∃ i, p.2 = .int i) → ∀ y ∈ ys, ∃ i t, y.2.2 = .int i t := by
  intro xs ys h
  unfold PR at h
  induction h with
  | nil => intro _ y hy; cases hy
  | @cons p q ps qs h1 _ ih =>
    intro hp y hy
    rcases List.mem_cons.mp hy with rfl | hy
    · obtain ⟨i, e⟩ := hp (p.1, p.2.2) (by simp)
      have r := h1.2.2
      dsimp only at e
      rw [e] at r
      exact ⟨i, r⟩
    · exact ih (fun x hx => hp x (by simp only [List.map_cons]; exact List.mem_cons_of_mem _ hx)) y hy
theorem PR.hits {ls : List PE3} {zs : List (List NK × Addr × Value)} (hz : PR ls zs) (il : ∀ p ∈ ls.map (fun x => (x.1, x.2.2)), ∃ i, p.2 = .int i) :
    ∀ {xs : List PE3} {ys : List (List NK × Addr × Value)}, PR xs ys → (∀ p ∈ xs.map (fun x => (x.1, x.2.2)), ∃ i, p.2 = .int i) →
      ys.all (hitH zs) = (xs.map fun x => (x.1, x.2.2)).all fun p => decide (valV (ls.map fun x => (x.1, x.2.2)) p.1 = some p.2) := by
  intro xs ys h
  unfold PR at h
  induction h with
  | nil => intro _; rfl
  | @cons p q ps qs h1 _ ih =>
    intro hp
    obtain ⟨e1, e2, e3⟩ := h1
    rw [List.all_cons, List.map_cons, List.all_cons, ih fun x hx => hp x (by simp only [List.map_cons]; exact List.mem_cons_of_mem _ hx)]
    congr 1
    obtain ⟨i, e⟩ := hp (p.1, p.2.2) (by simp)
    dsimp only at e
    rw [e] at e3
    obtain ⟨t, eq⟩ := e3
    have z := PR.at _ _ hz p.1
    rw [e1] at z
    unfold hitH
    rw [e1]
    dsimp only
    rw [e, eq]
    cases c : atKey zs q.1 with
    | none =>
      rw [c] at z
      cases c2 : valV (ls.map fun x => (x.1, x.2.2)) q.1 with
      | none => rfl
      | some v => rw [c2] at z; exact z.elim
    | some p2 =>
      rw [c] at z
      cases c2 : valV (ls.map fun x => (x.1, x.2.2)) q.1 with
      | none => rw [c2] at z; exact z.elim
      | some v =>
        rw [c2] at z
        have r2 : RelV v p2.2 := z
        have mem : ∃ kv ∈ ls.map (fun x => (x.1, x.2.2)), kv.2 = v := by
          unfold valV at c2
          obtain ⟨kv, h1, h2⟩ := Option.map_eq_some_iff.mp c2
          exact ⟨kv, List.mem_of_find?_eq_some h1, h2⟩
        obtain ⟨kv, hk, rfl⟩ := mem
        obtain ⟨j, ej⟩ := il kv hk
        rw [ej] at r2 ⊢
        obtain ⟨t2, et⟩ := r2
        show (numOf (Value.int i t) == numOf p2.2) = decide (some (V.int j) = some (V.int i))
        rw [et]
        show (i == j) = decide (some (V.int j) = some (V.int i))
        by_cases ij : i = j
        · subst ij; simp
        · rw [beq_eq_false_iff_ne.mpr ij, decide_eq_false]
          intro q
          injection q with q
          injection q with q
          exact ij q.symm
theorem op_eq_PD (hu : X.A.units + 1 < cLine) : OpR X (compareOp .Eq) (rEqPD X.prog X.w) := by
  intro pins s σ H x y v u Q I rx ry h
  obtain ⟨a, b, ks, ls, rfl, rfl, ea, eb, ia, ib, q⟩ := h
  cases rx
  cases ry
  obtain ⟨_, ha, xs, ys, _, rfl, _, ra, da⟩ := pd_of I ea
  obtain ⟨_, hb, xs2, ys2, _, rfl, _, rb, db⟩ := pd_of I eb
  refine eq_heap (Nat.lt_of_succ_lt hu) (tupleKind_room_in1 hu) ha hb da db (PR.ints ra ia) (PR.ints rb ib) ?_
  rw [PR.hits rb ib ra ia, ← Paired.length ra, ← Paired.length rb]
  rw [List.length_map, List.length_map] at q
  exact ⟨.bl _, H, I, rfl, q⟩
end
end GL

set_option Elab.async false
set_option linter.all false
set_option maxRecDepth 100000
set_option maxHeartbeats 4000000
/-! x + y, x - y of two own objects of one class; sorted of two truth values; defs called by names alone. -/
namespace GL
open PySem PySem.Spec PyProof.Rows L2
theorem bin_same {prog : Program} {w : World} {A : Around} {E' : Value → Shared → Prop} {s : Shared} {K : PySem.W.Frag} {x y C L f : Addr} {h₀ : Heap} {m : Str → Option Value}
    {ox oy : Obj} {od oe : Option Obj} {op : Operator} {Q : Value → Shared → Prop} (F : Fr h₀ L s.heap m) (X₀ : K.In h₀) (J : PySem.W.InstAt s.heap x ox C od) (J2 : PySem.W.InstAt s.heap y oy C oe)
    (T : PySem.W.selfFirst K C = true) (hs : PySem.W.findIn K (.ref C) (PySem.dunder op.info.2) = some (some (.ref f)))
    (hf : PySem.W.isFn K (.ref f) = true) (h : wpAny (model prog w) A (call (.ref f) [.ref x, .ref y]) (PySem.W.CmpBack Q) E' s) :
    wpAny (model prog w) A (binaryOp op (.ref x) (.ref y)) Q E' s := by
  have KX := X₀.keeps F.keep
  obtain ⟨cd, rest, hcd, hm⟩ := PySem.W.ksp_first T
  rcases hi : op.info with ⟨sym, nm⟩
  rw [hi] at hs
  dsimp only at hs
  have one := PySem.W.ksp_try KX J hs hf h
  obtain ⟨hh, gg, d, tt, os⟩ := s
  have A1 : PySem.W.Looks (model prog w) hh (typeOf (.ref x)) (.ref C) := J.type
  have A2 : PySem.W.Looks (model prog w) hh (typeOf (.ref y)) (.ref C) := J2.type
  have A3 : PySem.W.Looks (model prog w) hh (fillsNumberSlot (.ref C) nm) true := PySem.W.fills_K KX hcd hm hs
  have eq : (Value.ref C == Value.ref C) = true := beq_self_eq_true _
  simp only [binaryOp, hi]
  refine wpAny_holding (wpAny_bind ?_)
  unfold binaryOp1
  refine wpAny_bind (A1.at (wpAny_bind (A2.at (wpAny_bind (A3.at ?_)))))
  simp only [eq, if_true]
  ksp_lk
  refine wpAny_mono one ?_ fun _ _ e => e
  rintro r s' ⟨v, rfl, hq⟩
  ksp_lk
  exact hq
section
variable {X : Cx} {CX : CXT} {k n : Nat} {f C : Addr} {fd : FuncData} {ps ks : List Str} {sp : Sp} {E : XK} {nm : Str} {op : Operator}
def rBinO (C : Addr) (sp : Sp) (E : XK) : R2 := fun x y H Q =>
  ∃ a dx fs b dy gs, x = .ref a ∧ y = .ref b ∧ H a = some (.ins C dx fs) ∧ H b = some (.ins C dy gs) ∧ sp [.ref a, .ref b] H Q E
theorem op_bin_O (g : Clr X.A) (hr : Room k X.A) (hn : PySem.dunder op.info.2 = nm) (W : Own X CX k C nm f fd ps sp 2 E) (T : PySem.W.selfFirst X.K C = true)
    (hv : ∀ vs H Q, sp vs H Q E → sp vs H (fun v H1 => (∃ a, v = .ref a) ∧ Q v H1) E) : OpR X (binaryOp op) (rBinO C sp E) := by
  intro pins s σ H x y v u Q I rx ry h
  obtain ⟨a, dx, fs, b, dy, gs, rfl, rfl, ea, eb, h⟩ := h
  cases rx
  cases ry
  obtain ⟨ox, od, J⟩ := inst I ea
  obtain ⟨oy, oe, J2⟩ := inst I eb
  obtain ⟨m, hF⟩ := I.fr
  refine bin_same hF I.ok.mod.kin J J2 T (hn ▸ W.at_) W.fn ?_
  refine wpAny_mono (run_at (us := [.ref a, .ref b]) (vs := [.ref a, .ref b]) (ws := []) (zs := []) g hr rfl W.F W.bd W.ps_ I (.cons rfl (.cons rfl .nil)) .nil rfl rfl (hv _ _ _ h)) ?_ fun _ _ z => z
  rintro w' s' ⟨z, H1, I1, rz, ⟨c, rfl⟩, q⟩
  cases rz
  exact ⟨.ref c, H1, I1, rfl, q⟩
theorem or_bin {ps : List Str} (h : HasM X.prog X.w X.K X.mg X.base C nm k ps sp) (hl : ps.length = 2) (hn : PySem.dunder op.info.2 = nm) (T : PySem.W.selfFirst X.K C = true) (g : Clr X.A) (hr : Room k X.A)
    (hv : ∀ vs H Q, sp vs H Q E0 → sp vs H (fun v H1 => (∃ a, v = .ref a) ∧ Q v H1) E0) : OpR X (binaryOp op) (rBinO C sp E0) := by
  obtain ⟨f, fd, W⟩ := h.own
  rw [hl] at W
  exact op_bin_O g hr hn W T hv
end

/-! f(k = v, ..) -/
/-- a def that the text's top has bound to its name; called with all its values by names -/
structure HasK (P : Program) (w : World) (K : PySem.W.Frag) (mg : Str → Option Value) (base : Heap) (x : Str) (k : Nat) (ps : List Str) (sp : Sp) (ks : List Str) (gV : List V → List V → List V) : Prop where
  ex : ∃ f fd g1, mg x = some (.ref f) ∧ PySem.W.keepIn K (.ref f) = true ∧ FnG P w K mg base CX0 k f fd ps sp ∧ KBn K fd ps 0 ks g1 gV
section
variable {X : Cx} {CX : CXT} {k : Nat} {f : Addr} {fd : FuncData} {ps ks : List Str} {sp : Sp} {E : XK} {x : Str} {p pos : Pos} {kws : List Keyword} {tk : TA} {g1 : List Value → List Value → List Value} {gV : List V → List V → List V}
theorem pe_go0 (g : Clr X.A) (F : FnG X.prog X.w X.K X.mg X.base CX k f fd ps sp) (hr : Room k X.A) (hg : Gl X x) (hm : X.mg x = some (.ref f))
    (hk : PySem.W.keepIn X.K (.ref f) = true) (hb : KBn X.K fd ps 0 ks g1 gV) (hx : Passes CX X E) (hw : PK X kws tk)
    (hall : (backToKw pos (keywordEach kws X.env)).all (·.1.isSome) = true := by rfl)
    (hks : (backToKw pos (keywordEach kws X.env)).filterMap (·.1) = ks := by rfl)
    (hdb : (x == ("__debug__" : Str)) = false := by decide)
    (hpl : ((backTo pos (starEach [] X.env)).any (·.1) || (backToKw pos (keywordEach kws X.env)).any (·.1.isNone)) = false := by rfl) :
    PE X (.Call (.Name x p) [] kws pos) (tGo 0 ks.length sp gV E tNil tk) := by
  constructor
  intro pins s σ H Q I h
  apply wpAny_Call_Name_kw
  refine ld_glob I hg hm ?_ hdb
  refine PySem.W.callWith_KW0 (h₀ := X.base) I.ok.mod.kin hk hall ?_ hpl
  refine thn (hw.run pos pins s σ H _ I h) ?_
  rintro ws s2 ⟨zs, H2, I2, rz, l1, l2, q2⟩
  rw [hks]
  exact ⟨I2.kIn, run_at (us := []) (vs := []) g hr rfl F hb hx I2 .nil rz rfl l2 q2⟩
theorem pe_hasK (h : HasK X.prog X.w X.K X.mg X.base x k ps sp ks gV) (g : Clr X.A) (hr : Room k X.A) (hg : Gl X x) (hw : PK X kws tk)
    (hall : (backToKw pos (keywordEach kws X.env)).all (·.1.isSome) = true := by rfl)
    (hks : (backToKw pos (keywordEach kws X.env)).filterMap (·.1) = ks := by rfl)
    (hdb : (x == ("__debug__" : Str)) = false := by decide)
    (hpl : ((backTo pos (starEach [] X.env)).any (·.1) || (backToKw pos (keywordEach kws X.env)).any (·.1.isNone)) = false := by rfl) :
    PE X (.Call (.Name x p) [] kws pos) (tGo 0 ks.length sp gV E0 tNil tk) := by
  obtain ⟨f, fd, g1, a, b, F, c⟩ := h.ex
  exact pe_go0 g F hr hg a b c pass0 hw hall hks hdb hpl
end

/-! sorted(xs), xs of two truth values -/
def bvOf : Value → Int
  | .bool b => b2i b
  | _ => 0
def ltBv (v u : Value) : Bool := decide (bvOf v < bvOf u)
theorem swo_bv : SrtO.Swo ltBv := by
  refine ⟨fun x y h => ?_, fun x y z h1 h2 => ?_⟩
  · have a := of_decide_eq_true (p := bvOf x < bvOf y) h
    exact decide_eq_false (p := bvOf y < bvOf x) (by omega)
  · have a := of_decide_eq_false (p := bvOf y < bvOf x) h1
    have b := of_decide_eq_false (p := bvOf z < bvOf y) h2
    exact decide_eq_false (p := bvOf z < bvOf x) (by omega)
theorem kind_two (p q : Bool) : keyKind' #[.bool p, .bool q] = pure oneType' := by
  have f1 : ∀ b : Bool, firstOfTuple' (.bool b) = pure none := fun _ => rfl
  have f2 : ∀ b : Bool, typeOf (.bool b) = pure (.type "bool") := fun _ => rfl
  rw [keyKind'_eq, List.mapM_toArray, List.mapM_cons, List.mapM_cons, List.mapM_nil, f1, f1]
  simp only [map_pure, pure_bind]
  rw [if_neg (by simp), if_neg (by simp), oneTypeOnly'_eq, List.mapM_toArray, List.mapM_cons, List.mapM_cons, List.mapM_nil, f2, f2]
  simp only [map_pure, pure_bind]
  have all : (#[Value.type "bool", Value.type "bool"].all fun x => x == Value.type "bool") = true := by decide +kernel
  have h0 : #[Value.type "bool", Value.type "bool"][0]? = some (Value.type "bool") := by simp
  rw [h0]
  simp only [all, if_true, pure_bind, Option.isSome_some]
theorem two_sortable {prog : Program} {w : World} {A : Around} {s : Shared} {a : Addr} {p q : Bool} : SrtO.SortableO prog w A s a [.bool p, .bool q] ltBv := by
  intro h' _
  refine ⟨oneType', fun Q E hq => ?_, ?_⟩
  · rw [show ([Value.bool p, Value.bool q]).toArray = #[.bool p, .bool q] from rfl, kind_two]
    exact wpAny_pure hq
  · intro x y hm hm'
    have b1 : ∃ b, x.1 = .bool b := by
      rcases List.mem_cons.mp hm with e | e
      · exact ⟨_, e⟩
      · exact ⟨_, List.mem_singleton.mp e⟩
    have b2 : ∃ b, y.1 = .bool b := by
      rcases List.mem_cons.mp hm' with e | e
      · exact ⟨_, e⟩
      · exact ⟨_, List.mem_singleton.mp e⟩
    obtain ⟨b, e⟩ := b1
    obtain ⟨c, e'⟩ := b2
    show wpAny (model prog w) A (keyLt' oneType' x.1 y.1) (fun r s' => s' = _ ∧ r = ltBv x.1 y.1) (fun _ _ => False) _
    rw [e, e', keyLt'_oneType]
    exact PySem.W.oneLt_bool ⟨rfl, rfl⟩
def rSort2 (K : PySem.W.Frag) : List V → Hp → VK → Prop := fun vs H Q => ∃ (a : Addr) (p q : Bool), vs = [V.ref a] ∧ SqL K H a [.bl p, .bl q] ∧ NewK H (.lst [.bl (p && q), .bl (p || q)]) Q
theorem cr_sort2 {X : Cx} : CallR X (.builtin "sorted") (rSort2 X.K) := by
  intro pins s σ H vs us Q I r h
  obtain ⟨a, p, q, rfl, hs, k⟩ := h
  obtain ⟨its, rv, hl, hz⟩ := I.list hs
  rw [Vals.ref1 r]
  obtain ⟨u, v, rfl, r1, r2⟩ := vals_two rv
  cases r1
  cases r2
  refine SrtO.sorted_ord swo_bv hl.isList (by show 2 ≤ sizeLine; decide) (fun h2 h₁ a' _ _ => two_sortable) fun out h1 h2 => ?_
  have perm := h2.perm
  have e : out = [.bool (p && q), .bool (p || q)] := by
    have len := perm.length_eq
    match out, len, h1, perm with
    | [x, y], _, h1, perm =>
      have sorted : ltBv y x = false := by
        have := (List.pairwise_cons.mp h1).1 y (List.mem_singleton.mpr rfl)
        exact this
      have two : (x = .bool p ∧ y = .bool q) ∨ (x = .bool q ∧ y = .bool p) := by
        have hx := perm.mem_iff.mp (List.mem_cons_self (a := x) (l := [y]))
        rcases List.mem_cons.mp hx with ex | ex
        · subst ex
          have t := (List.perm_cons _).mp perm
          have z := List.perm_singleton.mp t
          injection z with z _
          exact .inl ⟨rfl, z⟩
        · have ex := List.mem_singleton.mp ex
          subst ex
          have t := (List.perm_cons _).mp (perm.trans (List.Perm.swap _ _ _))
          have z := List.perm_singleton.mp t
          injection z with z _
          exact .inr ⟨rfl, z⟩
      rcases two with ⟨rfl, rfl⟩ | ⟨rfl, rfl⟩
      · cases p <;> cases q <;> first | rfl | exact absurd sorted (by decide)
      · cases p <;> cases q <;> first | rfl | exact absurd sorted (by decide)
  subst e
  obtain ⟨ep, he'⟩ := PyProof.Rows.sortedAll_at s.heap [.bool p, .bool q] #[.bool (p && q), .bool (p || q)]
  have free := I.hok.fresh (Nat.le_succ s.heap.objs.size)
  exact ⟨.ref _, upd H (s.heap.objs.size + 1) (.lst [.bl (p && q), .bl (p || q)]), I.laid (t' := s.toks) (fun _ _ => PyProof.Rows.sortedAll_old) (Nat.le_succ _) ⟨by show 2 ≤ sizeLine; decide, _, ep, .cons rfl (.cons rfl .nil), he'⟩, rfl,
    k _ _ free upd_same (same_new (Same.refl' H) free)⟩
end GL

set_option Elab.async false
set_option linter.all false
set_option maxRecDepth 100000
set_option maxHeartbeats 4000000
/-! repr of a dict of own objects. -/
namespace GL
open PySem PySem.Spec PyProof.Rows L2
section
variable {X : Cx} {CX : CXT} {k : Nat} {f C : Addr} {fd : FuncData} {ps : List Str} {sp : Sp} {E : XK}
/-- as run_at, where guards may be up -/
theorem run_atF {A : Around} {pins : List (Addr × Obj)} {σ : L2.St} {H : Hp} {s : Shared} {Q : VK} {us : List Value} {vs : List V} (hr : Room k A) (fr : A.frames = X.A.frames)
    (F : FnOk X.prog X.w X.K X.mg X.base CX k f fd ps sp) (hb : KBn X.K fd ps ps.length [] (fun us _ => us) (fun vs _ => vs)) (hx : Passes CX X E) (I : L2.Inv X pins σ H s) (r : Vals vs us) (l1 : vs.length = ps.length) (h : sp vs H Q E) :
    wpAny (model X.prog X.w) A (call (.ref f) us []) (EP X pins σ Q) X.xe s := by
  have e0 := I.env0
  have e1 : Env0 X.prog X.w X.K X.mg X.base A X.stack s H := ⟨fr.trans e0.frames, e0.mod, e0.bs, e0.bsz, e0.funs, e0.frf, e0.hok, e0.bare⟩
  exact wpAny_call (codeAny_mono (F.run A X.stack s H ⟨us, []⟩ us vs Q E hr e1 (hb.to s us [] I.kIn (r.length.symm.trans l1) rfl) (hb.rel r .nil) h) (back hx I))
/-- the repr of an own object within that of a dict -/
theorem under_own {K : PySem.W.Frag} {prog : Program} {w : World} {A : Around} {E : Value → Shared → Prop} {s : Shared} {x C f L : Addr} {h₀ : Heap} {m : Str → Option Value} {ox : Obj} {od : Option Obj} {base : Nat} {Q : Str → Shared → Prop}
    (hu : A.units < cLine) (hb : base ≤ sizeLine) (F : Fr h₀ L s.heap m) (X₀ : K.In h₀) (J : PySem.W.InstAt s.heap x ox C od) (hs : PySem.W.findIn K (.ref C) "__repr__" = some (some (.ref f)))
    (hf : PySem.W.isFn K (.ref f) = true) (h : wpAny (model prog w) A (call (.ref f) [.ref x] []) (fun v s' => ∃ t u, v = .str t u ∧ Q t s') E s) : wpAny (model prog w) A (pyReprUnder base (.ref x)) Q E s := by
  have KX := X₀.keeps F.keep
  refine wpAny_pyReprUnder_ref hb ?_
  unfold pyReprObjUnder pyReprObjBy
  refine wpAny_bind (wpAny_cRoomFor hu (wpAny_bind (wpAny_bind (J.type.here ((PySem.W.looks_findIn KX hs).here ?_)))))
  show wpAny _ _ (if (some (Value.ref f)).isNone = true then _ else _) _ _ _
  rw [if_neg (by simp)]
  simp only [callSpecialIfBoundBy?, bindSpecialIfBound?]
  refine wpAny_bind (wpAny_holding (wpAny_bind (wpAny_bind (wpAny_bind (J.type.here ((PySem.W.looks_findIn KX hs).here ?_))))))
  refine wpAny_bind (wpAny_askSetting (wpAny_ite ?_))
  have fin : wpAny (model prog w) A (call (.ref f) ([.ref x] ++ []) [] >>= fun v => pure (some v)) (fun r s' => wpAny (model prog w) A (match r with
      | some r => do if ← isInstance r (.type "str") then pure r else raiseError "TypeError" s!"__repr__ returned non-string (type {← typeNameOf r})"
      | none => unsupported "repr:special-get-raises") (fun v s' => ∃ x u, v = .str x u ∧ Q x s') E s') E s := by
    refine wpAny_bind (wpAny_mono h ?_ fun _ _ e => e)
    rintro v s' ⟨t, u, rfl, q⟩
    refine wpAny_pure ?_
    exact wpAny_bind (wpAny_isInstance (T := "str") (b := true) rfl isSubtype_str_str (wpAny_pure ⟨t, u, rfl, q⟩))
  split
  · exact wpAny_bind ((PySem.W.bind_fn KX _ (beq_iff_eq.mp hf)).here (wpAny_pure (by exact fin)))
  · exact wpAny_tryCatch (wpAny_bind ((PySem.W.bind_fn KX _ (beq_iff_eq.mp hf)).here (wpAny_pure (by exact fin))))
end

/-- the loop of a dict's repr, what is told of the state between two entries being a letter -/
theorem repr_loop {prog : Program} {w : World} {A : Around} {s : Shared} {R : Result → Shared → Prop} {a : Addr} {o : Obj} {es : Array DictEntry} {n : Nat} {ps : List Str} (M : Nat → Shared → Prop)
    (at_ : ∀ i s, M i s → s.heap.get? a = some o) (hc : o.cls = .type "dict") (hd : o.data = .dict es n) (hsys : (a == sysModules) = false) (hg : A.guards = some []) (hl : ps.length = es.size) (hz : (dictText ps).length ≤ sizeLine)
    (item : ∀ i e, es[i]? = some e → ∃ k v : Str, ps[i]? = some (k ++ ": " ++ v) ∧ ReprIs prog w e.key k ∧ (∀ s tk, M i s → M i { s with toks := tk }) ∧ ∀ base (Q : Str → Shared → Prop) (s : Shared), base ≤ sizeLine → M i s → (∀ s', M (i + 1) s' → Q v s') →
      wpAny (model prog w) (A.under (.builtin "dict.__repr__" ⟨[.ref a], []⟩)) (pyReprUnder base e.val) Q (fun e s' => R (.error e) s') s)
    (h0 : M 0 s) (hR : ∀ s' u, M es.size s' → R (.ok (.ret (.str (dictText ps) u))) { s' with toks := s'.toks + 1 }) :
    wpOwn (model prog w) A (.builtin "dict.__repr__" ⟨[.ref a], []⟩) (Builtin.dictReprAt 0 ⟨[.ref a], []⟩) (fun fin s' => match fin with | .done f => R (.ok f) s' | .again c' => c'.quiet = true ∧ codeAny (model prog w) A c' R s') (fun e s' => R (.error e) s') s := by
  have ty : s.TypeIs (.ref a) "dict" := ⟨o, at_ _ _ h0, hc⟩
  have hp3 := piled_le_dictText ps
  unfold Builtin.dictReprAt
  refine wpOwn_bind (wpOwn_of_wpAny ?_)
  unfold Builtin.Dict.dictSlotNone
  refine wpAny_bind (wpAny_notOrdered_dict ty ?_)
  show wpAny _ _ (pure (Value.ref a)) _ _ s
  refine wpAny_pure ?_
  rw [dictReprRunning_eq]
  refine wpOwn_bind (wpOwn_stackTailAny hg (dictGuardF_off _) (dictGuardF_pos _) ?_)
  show wpOwn _ _ _ (if (([] : List Code).any fun c => dictGuardF (.ref a) (c, default)) = true then _ else _) _ _ s
  rw [if_neg (by simp)]
  refine wpOwn_of_wpAny ?_
  show wpAny _ _ (Builtin.Dict.addrOf (.ref a) >>= _) _ _ s
  refine wpAny_bind (wpAny_pure ?_)
  show wpAny _ _ (Builtin.Dict.showsAll a >>= _) _ _ s
  unfold Builtin.Dict.showsAll
  rw [if_neg (by rw [hsys]; exact Bool.false_ne_true)]
  refine wpAny_bind (wpAny_pure (wpAny_bind (wpAny_dictEpoch (at_ _ _ h0) hd (wpAny_bind (wpAny_dictEntries (at_ _ _ h0) hd (wpAny_bind ?_))))))
  rw [Std.Legacy.Range.forIn_eq_forIn_range']
  simp only [Std.Legacy.Range.size, Nat.sub_zero, Nat.add_sub_cancel, Nat.div_one]
  refine wpAny_forIn_list _ (fun rest r s' => ∃ i, rest = List.range' i (es.size - i) ∧ i ≤ es.size ∧ r = (⟨(ps.take i).toArray, 0 + piled (ps.take i)⟩ : (Array Str × Nat)) ∧ M i s') _ ?_ ?_ _ _ ⟨0, by simp, Nat.zero_le _, by simp [piled], h0⟩
  · rintro x rest _ s' ⟨i, hr, hi, rfl, m⟩
    have lt : i < es.size := by
      apply Nat.lt_of_not_le
      intro c
      rw [Nat.sub_eq_zero_of_le c] at hr
      cases hr
    have step : es.size - i = (es.size - (i + 1)) + 1 := by omega
    rw [step, List.range'_succ] at hr
    injection hr with hx hrest
    subst hx
    obtain ⟨k, v, hp, rk, stay, rv⟩ := item x es[x] (Array.getElem?_eq_getElem lt)
    have hpl : (k ++ ": " ++ v).length = k.length + 2 + v.length := by
      rw [strLen_append, strLen_append]; rfl
    have hp1 := piled_take_succ hp
    have hp2 := piled_take_le ps (x + 1)
    rw [hpl] at hp1
    refine wpAny_bind (wpAny_dictEntries (at_ _ _ m) hd ?_)
    rw [Array.getElem?_eq_getElem lt]
    refine wpAny_bind (wpAny_holding (wpAny_bind (rk (0 + piled (ps.take x) + 1) (by omega) _ _ _ _ fun tk =>
      wpAny_bind (rv (0 + piled (ps.take x) + (k.length + 3)) _ _ (by omega) (stay _ tk m) fun s2 m2 => wpAny_pure ?_))))
    refine wpAny_bind (wpAny_dictEpoch (at_ _ _ m2) hd ?_)
    rw [if_neg (by simp)]
    have e1 : (ps.take x).toArray.push (k ++ ": " ++ v) = (ps.take (x + 1)).toArray := by
      rw [List.take_add_one, hp]
      simp
    have e2 : 0 + piled (ps.take x) + (k.length + v.length + 4) = 0 + piled (ps.take (x + 1)) := by omega
    refine wpAny_pure ⟨x + 1, hrest, lt, ?_, m2⟩
    rw [e1, e2]
  · rintro _ s' ⟨i, hr, hi, rfl, m⟩
    have e : i = es.size := by
      apply Nat.le_antisymm hi
      apply Nat.le_of_not_lt
      intro c
      rw [show es.size - i = (es.size - (i + 1)) + 1 by omega, List.range'_succ] at hr
      cases hr
    rw [e] at m
    rw [e, ← hl, List.take_length]
    refine wpAny_bind (wpAny_mkStr (wpAny_pure ?_) (by simpa [dictText] using hz))
    have z := hR s' s'.toks m
    simpa [dictText] using z

/-- the entries of a dict of own objects, as they are shown -/
inductive ShowsE (C : Addr) (sp : Sp) (H : Hp) : List (Key × V) → List Str → Prop where
  | nil : ShowsE C sp H [] []
  | cons {x : Str} {y dx : Addr} {fs : List (Str × V)} {t : Str} {r : List (Key × V)} {ts : List Str} : (reprText x).length ≤ sizeLine → H y = some (.ins C dx fs) →
      (∀ H' Q, Same H H' → (∀ H'', Same H' H'' → Q (.str t) H'') → sp [.ref y] H' Q E0) → ShowsE C sp H r ts → ShowsE C sp H ((Sum.inr x, .ref y) :: r) ((reprText x ++ ": " ++ t) :: ts)
theorem ShowsE.len {C : Addr} {sp : Sp} {H : Hp} {kvs : List (Key × V)} {ts : List Str} (h : ShowsE C sp H kvs ts) : ts.length = kvs.length := by
  induction h with
  | nil => rfl
  | cons _ _ _ _ ih => simp [ih]
theorem ShowsE.at {C : Addr} {sp : Sp} {H : Hp} {kvs : List (Key × V)} {ts : List Str} (h : ShowsE C sp H kvs ts) : ∀ {i : Nat} {kv : Key × V}, kvs[i]? = some kv → ∃ x y dx fs t, kv = (Sum.inr x, .ref y) ∧ ts[i]? = some (reprText x ++ ": " ++ t) ∧ (reprText x).length ≤ sizeLine ∧ H y = some (.ins C dx fs) ∧
    ∀ H' Q, Same H H' → (∀ H'', Same H' H'' → Q (.str t) H'') → sp [.ref y] H' Q E0 := by
  induction h with
  | nil => intro i kv e; simp at e
  | @cons x y dx fs t r ts z e1 e2 _ ih =>
    intro i kv e
    cases i with
    | zero => cases e; exact ⟨x, y, dx, fs, t, rfl, rfl, z, e1, e2⟩
    | succ i => exact ih (by simpa using e)
def rReprRD (C : Addr) (sp : Sp) : List V → Hp → VK → Prop := fun vs H Q => ∃ a o kvs ts, vs = [.ref a] ∧ H a = some (.frz o (.dK kvs)) ∧ ShowsE C sp H kvs ts ∧ (dictText ts).length ≤ sizeLine ∧ ∀ H', Same H H' → Q (.str (dictText ts)) H'
theorem drepr_depth {A : Around} {a : Addr} : (A.under (.builtin "dict.__repr__" ⟨[.ref a], []⟩)).depth ≤ A.depth + 1 := by
  first | exact Nat.le_of_eq rfl | exact Nat.le_succ _ | simp [Around.under, Code.weight, Code.isCreation, Code.isGuard, Code.isCaller, Code.frames, Code.isFrame, guardIds]
theorem drepr_frames {A : Around} {a : Addr} : (A.under (.builtin "dict.__repr__" ⟨[.ref a], []⟩)).frames = A.frames := by
  first | rfl | simp [Around.under, Code.envs, Code.isFrame, pushEnvs]
theorem drepr_handled {A : Around} {a : Addr} : (A.under (.builtin "dict.__repr__" ⟨[.ref a], []⟩)).handled = A.handled := by
  first | rfl | simp [Around.under]
theorem call_repr_RD {X : Cx} {k : Nat} {f C : Addr} {fd : FuncData} {sp : Sp} (g : Clr X.A) (hr : Room (k + 3) X.A) (F : FnOk X.prog X.w X.K X.mg X.base CX0 k f fd ["self"] sp) (hb : KBn X.K fd ["self"] 1 [] (fun us _ => us) (fun vs _ => vs))
    (hs : PySem.W.findIn X.K (.ref C) "__repr__" = some (some (.ref f))) (hf : PySem.W.isFn X.K (.ref f) = true) : CallR X (.builtin "repr") (rReprRD C sp) := by
  intro pins s σ H vs us Q I r h
  obtain ⟨a, o, kvs, ts, rfl, ea, sh, hz, q⟩ := h
  cases r with
  | cons r1 r2 =>
    cases r2
    cases r1
    obtain ⟨ho, z, hsys, vs, rel, ob, es, ep, ho2, hx, hdat, hkeys, hpairs, hnd⟩ := (show ObjOk X.prog X.w H s.heap a (.frz o (.dK kvs)) from I.hok a _ ea)
    cases ho.symm.trans ho2
    have un := hr.un
    have dp := hr.dp
    have lv : vs.length = es.size := by rw [← hpairs.length]; exact Array.length_toList
    have lk := rel.length
    have ty : s.TypeIs (.ref a) "dict" := ⟨o, ho, hx.1⟩
    have hh : X.A.handled = none := hr.hd
    refine call_repr_slot (by show X.A.units + 1 < cLine; omega) ty PySem.F.slot_dict_repr ?_
    refine wpAny_call (codeAny_call_builtin_own (Code.quiet_builtin _ (by decide +kernel)) PySem.F.entry_dict_repr (PySem.F.slot_dict_repr.check _ _ _ _ _ _ _ _ ty (PySem.F.args_dict_repr_1 _) ?_))
    refine repr_loop (prog := X.prog) (w := X.w) (R := callEnd (fun v s' => ∃ x t, v = .str x t ∧ EP X pins σ Q v s') X.xe) (ps := ts) (fun _ s' => ∃ H', L2.Inv X pins σ H' s' ∧ Same H H') ?_ hx.1 hdat hsys (show X.A.in1.guards = some [] from g) (by rw [sh.len]; omega) hz ?_ ⟨H, I, Same.refl' H⟩ ?_
    · rintro i s' ⟨H', I', sm⟩
      exact (I'.hok a _ (sm _ _ ea)).1
    · intro i e he
      have hi : i < vs.length := by rw [lv]; exact (Array.getElem?_eq_some_iff.mp he).1
      obtain ⟨kv, hkv⟩ : ∃ kv, kvs[i]? = some kv := ⟨_, List.getElem?_eq_getElem (by omega)⟩
      obtain ⟨x, y, dx, fs, t, rfl, et, lx, ey, pr⟩ := sh.at hkv
      obtain ⟨qv, hq⟩ : ∃ qv, vs[i]? = some qv := ⟨_, List.getElem?_eq_getElem hi⟩
      obtain ⟨p', hp', e1, e2⟩ := paired_at rel hq
      rw [hkv] at hp'
      cases hp'
      obtain ⟨hkey, hval⟩ := hpairs.get? (i := i) (e := e) (k := qv.1) (v := qv.2) (by rw [Array.getElem?_toList]; exact he) hq
      have ek : (mixKind X.prog X.w).is (Sum.inr x) e.key = true := by
        rw [show (Sum.inr x : Key) = qv.1 from e1]
        exact hkey
      obtain ⟨tk, eks⟩ : ∃ tk, e.key = .str x tk := by
        have ek' : keyIs (Sum.inr x) e.key = true := ek
        rcases keyIs_shape ek' with ⟨_, _, c, _⟩ | ⟨x', tk, c, e3⟩
        · cases c
        · cases c
          exact ⟨tk, e3⟩
      have evr : e.val = .ref y := by rw [hval]; exact e2
      refine ⟨reprText x, t, et, by rw [eks]; exact ReprIs.str x tk lx, ?_, ?_⟩
      · rintro s1 tk ⟨H', I', sm⟩
        exact ⟨H', I'.tok _, sm⟩
      · rintro base Q1 s1 hbase ⟨H', I', sm⟩ q1
        rw [evr]
        obtain ⟨ox, od, J⟩ := inst I' (sm _ _ ey)
        obtain ⟨m, hF⟩ := I'.fr
        refine under_own (by rw [units_under_dict_repr]; show X.A.units + 1 + 1 < cLine; omega) hbase hF I'.ok.mod.kin J hs hf ?_
        have rm : Room k (X.A.in1.under (.builtin "dict.__repr__" ⟨[.ref a], []⟩)) := by
          refine ⟨by rw [drepr_handled]; exact hh, ?_, ?_⟩
          · have := drepr_depth (A := X.A.in1) (a := a)
            have e3 : X.A.in1.depth = X.A.depth := rfl
            omega
          · rw [units_under_dict_repr]
            show X.A.units + 1 + 1 + 16 * k + 200 < cLine
            omega
        refine wpAny_mono (run_atF (vs := [.ref y]) rm drepr_frames F hb pass0 I' (.cons rfl .nil) rfl (pr H' (fun v H2 => v = .str t ∧ Same H H2) sm fun H2 s2 => ⟨rfl, sm.trans s2⟩)) ?_ ?_
        · rintro v s2 ⟨vv, H2, I2, rv, rfl, s3⟩
          obtain ⟨u, rfl⟩ := rv
          exact ⟨t, u, rfl, q1 _ ⟨H2, I2, s3⟩⟩
        · intro e s' z
          exact z
    · rintro s' u ⟨H', I', sm⟩
      exact ⟨_, _, rfl, .str (dictText ts), H', I'.tok _, ⟨_, rfl⟩, q H' sm⟩
end GL

/-! Ways along conditions, and what is least among them. -/
set_option linter.all false
namespace KN
variable {P : Type} [DecidableEq P]
abbrev Cond (P : Type) := P × P × Int

/-- a way from the one to the other: the places behind the first one, its sum -/
inductive W (C : List (Cond P)) : P → P → List P → Int → Prop where
  | nil {a : P} : W C a a [] 0
  | cons {a b c : P} {m s : Int} {vs : List P} : (a, b, m) ∈ C → W C b c vs s → W C a c (b :: vs) (m + s)

theorem W.app {C : List (Cond P)} {a b c : P} {u v : List P} {s t : Int} (h : W C a b u s) (k : W C b c v t) : W C a c (u ++ v) (s + t) := by
  induction h with
  | nil => simpa using k
  | cons e _ ih =>
    rw [Int.add_assoc]
    exact .cons e (ih k)
theorem W.mono {C D : List (Cond P)} (i : ∀ x ∈ C, x ∈ D) {a b : P} {u : List P} {s : Int} (h : W C a b u s) : W D a b u s := by
  induction h with
  | nil => exact .nil
  | cons e _ ih => exact .cons (i _ e) ih
theorem W.one {C : List (Cond P)} {a b : P} {m : Int} (h : (a, b, m) ∈ C) : W C a b [b] m := by
  have := W.cons h (.nil (C := C))
  simpa using this
theorem W.zero {C : List (Cond P)} {a b : P} {s : Int} (h : W C a b [] s) : a = b ∧ s = 0 := by
  cases h
  exact ⟨rfl, rfl⟩
/-- a place on the way parts it -/
theorem W.part {C : List (Cond P)} {a c p : P} {vs : List P} {s : Int} (h : W C a c vs s) (hp : p ∈ vs) :
    ∃ v1 v2 s1 s2, v1 ≠ [] ∧ W C a p v1 s1 ∧ W C p c v2 s2 ∧ vs.length = v1.length + v2.length ∧ s = s1 + s2 := by
  induction h with
  | nil => cases hp
  | @cons a b c m s vs e k ih =>
    by_cases q : p = b
    · subst q
      exact ⟨[p], vs, m, s, by simp, .one e, k, by simp; omega, rfl⟩
    · obtain ⟨v1, v2, s1, s2, _, h1, h2, hl, hs⟩ := ih ((List.mem_cons.mp hp).resolve_left q)
      exact ⟨b :: v1, v2, m + s1, s2, by simp, .cons e h1, h2, by simp; omega, by omega⟩
/-- a way that meets a place twice has a ring on it -/
theorem W.loop {C : List (Cond P)} {a c : P} {vs : List P} {s : Int} (h : W C a c vs s) (n : ¬ (a :: vs).Nodup) :
    ∃ p v1 v2 v3 s1 s2 s3, W C a p v1 s1 ∧ v2 ≠ [] ∧ W C p p v2 s2 ∧ W C p c v3 s3 ∧ vs.length = v1.length + v2.length + v3.length ∧ s = s1 + s2 + s3 := by
  induction h with
  | nil => exact absurd (by simp) n
  | @cons a b c m s vs e k ih =>
    by_cases q : a ∈ b :: vs
    · obtain ⟨v1, v2, s1, s2, h0, h1, h2, hl, hs⟩ := (W.cons e k).part q
      exact ⟨a, [], v1, v2, 0, s1, s2, .nil, h0, h1, h2, by simpa using hl, by omega⟩
    · have n' : ¬ (b :: vs).Nodup := fun z => n (List.nodup_cons.mpr ⟨q, z⟩)
      obtain ⟨p, v1, v2, v3, s1, s2, s3, h1, h0, h2, h3, hl, hs⟩ := ih n'
      exact ⟨p, b :: v1, v2, v3, m + s1, s2, s3, .cons e h1, h0, h2, h3, by simp; omega, by omega⟩

/-- all places of the conditions -/
def In (V : List P) (C : List (Cond P)) : Prop := ∀ x ∈ C, x.1 ∈ V ∧ x.2.1 ∈ V
theorem W.sub {C : List (Cond P)} {V : List P} (i : In V C) {a b : P} {vs : List P} {s : Int} (h : W C a b vs s) : ∀ x ∈ vs, x ∈ V := by
  induction h with
  | nil => intro x q; cases q
  | cons e _ ih =>
    intro x q
    rcases List.mem_cons.mp q with rfl | q
    · exact (i _ e).2
    · exact ih x q
theorem len_of_nodup : ∀ {l V : List P}, l.Nodup → (∀ x ∈ l, x ∈ V) → l.length ≤ V.length
  | [], _, _, _ => Nat.zero_le _
  | a :: l, V, n, h => by
    have ha := h a (List.mem_cons_self ..)
    have nd := List.nodup_cons.mp n
    have := len_of_nodup (l := l) (V := V.erase a) nd.2 fun x hx =>
      (List.mem_erase_of_ne (fun (e : x = a) => nd.1 (e ▸ hx))).mpr (h x (List.mem_cons_of_mem _ hx))
    rw [List.length_erase_of_mem ha] at this
    have : 0 < V.length := List.length_pos_of_mem ha
    simp only [List.length_cons]
    omega

def NoNeg (C : List (Cond P)) : Prop := ∀ p vs s, W C p p vs s → 0 ≤ s
/-- there is a ring -/
def Ring (C : List (Cond P)) : Prop := ∃ p vs s, W C p p vs s ∧ s < 0
theorem noNeg_iff {C : List (Cond P)} : NoNeg C ↔ ¬ Ring C :=
  ⟨fun h ⟨p, vs, s, w, l⟩ => by have := h p vs s w; omega, fun h p vs s w => by
    by_cases q : 0 ≤ s
    · exact q
    · exact absurd ⟨p, vs, s, w, by omega⟩ h⟩

/-- without a ring each way has one of few conditions beside it -/
theorem short {C : List (Cond P)} {V : List P} (i : In V C) (nn : NoNeg C) : ∀ (n : Nat) {a b : P} {vs : List P} {s : Int}, vs.length ≤ n → a ∈ V → W C a b vs s →
    ∃ vs' s', W C a b vs' s' ∧ vs'.length < V.length ∧ s' ≤ s
  | n, a, b, vs, s, hn, ha, h => by
    by_cases nd : (a :: vs).Nodup
    · have := len_of_nodup nd fun x hx => (List.mem_cons.mp hx).elim (fun e => e ▸ ha) (h.sub i x)
      exact ⟨vs, s, h, by simp only [List.length_cons] at this; omega, Int.le_refl _⟩
    · obtain ⟨p, v1, v2, v3, s1, s2, s3, h1, h0, h2, h3, hl, hs⟩ := h.loop nd
      have pos : 0 < v2.length := List.length_pos_iff.mpr h0
      match n with
      | 0 => omega
      | n + 1 =>
        obtain ⟨w, t, k1, k2, k3⟩ := short i nn n (vs := v1 ++ v3) (by simp; omega) ha (h1.app h3)
        exact ⟨w, t, k1, k2, by have := nn _ _ _ h2; omega⟩
/-- a ring of few conditions -/
theorem ring_short {C : List (Cond P)} {V : List P} (i : In V C) : ∀ (n : Nat) {p : P} {vs : List P} {s : Int}, vs.length ≤ n → W C p p vs s → s < 0 →
    ∃ q vs' s', W C q q vs' s' ∧ s' < 0 ∧ vs'.length ≤ V.length
  | n, p, vs, s, hn, h, l => by
    by_cases nd : vs.Nodup
    · exact ⟨p, vs, s, h, l, len_of_nodup nd (h.sub i)⟩
    · cases h with
      | nil => exact absurd (by simp) nd
      | @cons _ b _ m s vs e k =>
        obtain ⟨q, v1, v2, v3, s1, s2, s3, h1, h0, h2, h3, hl, hs⟩ := k.loop nd
        have pos : 0 < v2.length := List.length_pos_iff.mpr h0
        match n with
        | 0 => simp at hn
        | n + 1 =>
          simp only [List.length_cons] at hn
          by_cases z : s2 < 0
          · exact ring_short i n (vs := v2) (by omega) h2 z
          · exact ring_short i n (vs := b :: (v1 ++ v3)) (by simp; omega) (.cons e (h1.app h3)) (by omega)

/-- a condition follows from others -/
def Imp (C : List (Cond P)) (c : Cond P) : Prop := Ring C ∨ ∃ vs s, W C c.1 c.2.1 vs s ∧ s ≤ c.2.2
theorem Ring.mono {C D : List (Cond P)} (i : ∀ x ∈ C, x ∈ D) : Ring C → Ring D := fun ⟨p, vs, s, w, l⟩ => ⟨p, vs, s, w.mono i, l⟩
theorem Imp.mono {C D : List (Cond P)} (i : ∀ x ∈ C, x ∈ D) {c : Cond P} : Imp C c → Imp D c :=
  Or.imp (Ring.mono i) fun ⟨vs, s, w, l⟩ => ⟨vs, s, w.mono i, l⟩
theorem Imp.mem {C : List (Cond P)} {c : Cond P} (h : c ∈ C) : Imp C c := .inr ⟨_, _, .one (show (c.1, c.2.1, c.2.2) ∈ C from h), Int.le_refl _⟩
/-- a way over conditions that follow -/
theorem W.over {C D : List (Cond P)} (h : ∀ c ∈ D, Imp C c) {a b : P} {vs : List P} {s : Int} (w : W D a b vs s) : Ring C ∨ ∃ vs' s', W C a b vs' s' ∧ s' ≤ s := by
  induction w with
  | nil => exact .inr ⟨[], 0, .nil, Int.le_refl _⟩
  | cons e _ ih =>
    rcases h _ e with r | ⟨u, t, w1, l1⟩
    · exact .inl r
    · rcases ih with r | ⟨u2, t2, w2, l2⟩
      · exact .inl r
      · exact .inr ⟨_, _, w1.app w2, by dsimp only at l1; omega⟩
theorem Ring.over {C D : List (Cond P)} (h : ∀ c ∈ D, Imp C c) (r : Ring D) : Ring C := by
  obtain ⟨p, vs, s, w, l⟩ := r
  rcases w.over h with r | ⟨u, t, w', l'⟩
  · exact r
  · exact ⟨p, u, t, w', by omega⟩
theorem Imp.over {C D : List (Cond P)} (h : ∀ c ∈ D, Imp C c) {c : Cond P} (k : Imp D c) : Imp C c := by
  rcases k with r | ⟨vs, s, w, l⟩
  · exact .inl (r.over h)
  · rcases w.over h with r | ⟨u, t, w', l'⟩
    · exact .inl r
    · exact .inr ⟨u, t, w', by omega⟩

/-- the contrary of a condition put to others makes a ring just if it follows from them -/
theorem ring_contrary {C : List (Cond P)} {c : Cond P} : Ring (C ++ [(c.2.1, c.1, -c.2.2 - 1)]) ↔ Imp C c := by
  constructor
  · rintro ⟨p, vs, s, w, l⟩
    -- a way over the greater list: one over C alone, or one to the end c.2.1 and ones of C from c.1 on
    have key : ∀ {a b : P} {vs : List P} {s : Int}, W (C ++ [(c.2.1, c.1, -c.2.2 - 1)]) a b vs s → ¬ Imp C c →
        (∃ u t, W C a b u t ∧ t ≤ s) ∨ (∃ u1 t1 u2 t2, W C a c.2.1 u1 t1 ∧ W C c.1 b u2 t2 ∧ t1 + (-c.2.2 - 1) + t2 ≤ s) := by
      intro a b vs s w ni
      induction w with
      | nil => exact .inl ⟨[], 0, .nil, Int.le_refl _⟩
      | @cons a b d m s vs e k ih =>
        rcases List.mem_append.mp e with e | e
        · rcases ih with ⟨u, t, w1, l1⟩ | ⟨u1, t1, u2, t2, w1, w2, l1⟩
          · exact .inl ⟨_, _, .cons e w1, by omega⟩
          · exact .inr ⟨_, _, _, _, .cons e w1, w2, by omega⟩
        · have e := List.mem_singleton.mp e
          injection e with e1 e2
          injection e2 with e2 e3
          subst e1 e2 e3
          rcases ih with ⟨u, t, w1, l1⟩ | ⟨u1, t1, u2, t2, w1, w2, l1⟩
          · exact .inr ⟨[], 0, u, t, .nil, w1, by omega⟩
          · -- c.1 to c.2.1 over C: it costs more than c's most
            refine .inr ⟨[], 0, u2, t2, .nil, w2, ?_⟩
            have : ¬ t1 ≤ c.2.2 := fun z => ni (.inr ⟨u1, t1, w1, z⟩)
            omega
    by_cases ni : Imp C c
    · exact ni
    · rcases key w ni with ⟨u, t, w1, l1⟩ | ⟨u1, t1, u2, t2, w1, w2, l1⟩
      · exact .inl ⟨p, u, t, w1, by omega⟩
      · exact .inr ⟨_, _, w2.app w1, by omega⟩
  · rintro (r | ⟨vs, s, w, l⟩)
    · exact r.mono fun x hx => List.mem_append_left _ hx
    · refine ⟨c.1, _, _, (w.mono fun x hx => List.mem_append_left _ hx).app (.one (List.mem_append_right _ (List.mem_singleton.mpr rfl))), by omega⟩
end KN

set_option linter.all false
namespace KN
variable {P : Type} [DecidableEq P]
/-! tables of sums -/
abbrev Tab (P : Type) := P → P → Option Int
def Tab.put (f : Tab P) (a b : P) (s : Int) : Tab P := fun x y => if x = a ∧ y = b then some s else f x y
theorem Tab.put_same {f : Tab P} {a b : P} {s : Int} : f.put a b s a b = some s := if_pos ⟨rfl, rfl⟩
theorem Tab.put_ne {f : Tab P} {a b x y : P} {s : Int} (h : ¬ (x = a ∧ y = b)) : f.put a b s x y = f x y := if_neg h
/-- g tells no more than f anywhere -/
def Below (f g : Tab P) : Prop := ∀ a b s, f a b = some s → ∃ t, g a b = some t ∧ t ≤ s
theorem Below.refl {f : Tab P} : Below f f := fun _ _ s e => ⟨s, e, Int.le_refl _⟩
theorem Below.trans {f g h : Tab P} (a : Below f g) (b : Below g h) : Below f h := fun x y s e => by
  obtain ⟨t, e1, l1⟩ := a x y s e
  obtain ⟨u, e2, l2⟩ := b x y t e1
  exact ⟨u, e2, Int.le_trans l2 l1⟩
theorem Below.put {f : Tab P} {a b : P} {s : Int} (h : ∀ t, f a b = some t → s ≤ t) : Below f (f.put a b s) := fun x y t e => by
  by_cases q : x = a ∧ y = b
  · obtain ⟨rfl, rfl⟩ := q
    exact ⟨s, Tab.put_same, h t e⟩
  · exact ⟨t, (Tab.put_ne q).trans e, Int.le_refl _⟩

/-! ### ways of just so many conditions -/
structure Exact (C : List (Cond P)) (V : List P) (k : Nat) (f : Tab P) : Prop where
  s : ∀ a b s, f a b = some s → ∃ vs, W C a b vs s ∧ vs.length = k
  c : ∀ a b vs s, a ∈ V → W C a b vs s → vs.length = k → ∃ t, f a b = some t ∧ t ≤ s
theorem Exact.zero {C : List (Cond P)} {V : List P} {f : Tab P} (h : ∀ a b s, f a b = some s ↔ (a ∈ V ∧ a = b ∧ s = 0)) : Exact C V 0 f where
  s := fun a b s e => by
    obtain ⟨_, rfl, rfl⟩ := (h a b s).mp e
    exact ⟨[], .nil, rfl⟩
  c := fun a b vs s ha w l => by
    cases vs with
    | nil =>
      obtain ⟨rfl, rfl⟩ := w.zero
      exact ⟨0, (h a a 0).mpr ⟨ha, rfl, rfl⟩, Int.le_refl _⟩
    | cons x r => simp at l
/-- a table under way: one condition more ahead of the ways of sums -/
structure Lg (C : List (Cond P)) (sums told : Tab P) (D : Cond P → P → Prop) : Prop where
  s : ∀ a b s, told a b = some s → ∃ d m t, (a, d, m) ∈ C ∧ sums d b = some t ∧ s = m + t
  c : ∀ a d m b t, D (a, d, m) b → sums d b = some t → ∃ s, told a b = some s ∧ s ≤ m + t
theorem Lg.start {C : List (Cond P)} {sums : Tab P} : Lg C sums (fun _ _ => none) (fun _ _ => False) :=
  ⟨fun _ _ _ e => (nomatch e), fun _ _ _ _ _ h _ => h.elim⟩
theorem Lg.skip {C : List (Cond P)} {sums told : Tab P} {D : Cond P → P → Prop} (h : Lg C sums told D) {a d b : P} {m : Int} (e : sums d b = none) :
    Lg C sums told (fun x y => D x y ∨ (x = (a, d, m) ∧ y = b)) :=
  ⟨h.s, fun a' d' m' b' t k q => by
    rcases k with k | ⟨k, rfl⟩
    · exact h.c _ _ _ _ _ k q
    · injection k with k1 k2
      injection k2 with k2 k3
      subst k1 k2 k3
      rw [e] at q
      cases q⟩
theorem Lg.keep {C : List (Cond P)} {sums told : Tab P} {D : Cond P → P → Prop} (h : Lg C sums told D) {a d b : P} {m t s : Int} (e : sums d b = some t) (k : told a b = some s) (l : ¬ m + t < s) :
    Lg C sums told (fun x y => D x y ∨ (x = (a, d, m) ∧ y = b)) :=
  ⟨h.s, fun a' d' m' b' t' q r => by
    rcases q with q | ⟨q, rfl⟩
    · exact h.c _ _ _ _ _ q r
    · injection q with k1 k2
      injection k2 with k2 k3
      subst k1 k2 k3
      rw [e] at r
      cases r
      exact ⟨s, k, by omega⟩⟩
theorem Lg.put {C : List (Cond P)} {sums told : Tab P} {D : Cond P → P → Prop} (h : Lg C sums told D) {a d b : P} {m t : Int} (hc : (a, d, m) ∈ C) (e : sums d b = some t)
    (l : ∀ s, told a b = some s → m + t < s) : Lg C sums (told.put a b (m + t)) (fun x y => D x y ∨ (x = (a, d, m) ∧ y = b)) := by
  have bl : Below told (told.put a b (m + t)) := .put fun s q => by have := l s q; omega
  refine ⟨fun a' b' s q => ?_, fun a' d' m' b' t' q r => ?_⟩
  · by_cases z : a' = a ∧ b' = b
    · obtain ⟨rfl, rfl⟩ := z
      rw [Tab.put_same] at q
      cases q
      exact ⟨d, m, t, hc, e, rfl⟩
    · rw [Tab.put_ne z] at q
      exact h.s _ _ _ q
  · rcases q with q | ⟨q, rfl⟩
    · obtain ⟨s, q1, q2⟩ := h.c _ _ _ _ _ q r
      obtain ⟨u, u1, u2⟩ := bl _ _ _ q1
      exact ⟨u, u1, by omega⟩
    · injection q with k1 k2
      injection k2 with k2 k3
      subst k1 k2 k3
      rw [e] at r
      cases r
      exact ⟨_, Tab.put_same, Int.le_refl _⟩
theorem Lg.weaken {C : List (Cond P)} {sums told : Tab P} {D E : Cond P → P → Prop} (h : Lg C sums told D) (i : ∀ x y, E x y → D x y) : Lg C sums told E :=
  ⟨h.s, fun a d m b t q => h.c a d m b t (i _ _ q)⟩
theorem Lg.done {C : List (Cond P)} {V : List P} (i : In V C) {sums told : Tab P} {D : Cond P → P → Prop} {k : Nat} (h : Lg C sums told D) (x : Exact C V k sums) (hd : ∀ c ∈ C, ∀ b ∈ V, D c b) : Exact C V (k + 1) told where
  s := fun a b s e => by
    obtain ⟨d, m, t, hc, e1, rfl⟩ := h.s a b s e
    obtain ⟨vs, w, l⟩ := x.s d b t e1
    exact ⟨d :: vs, .cons hc w, by simp [l]⟩
  c := fun a b vs s ha w l => by
    cases w with
    | nil => simp at l
    | @cons _ d _ m s vs e w =>
      have hb : b ∈ V := by
        cases vs with
        | nil => obtain ⟨rfl, _⟩ := w.zero; exact (i _ e).2
        | cons y r =>
          obtain ⟨v1, v2⟩ := W.part w (p := b) (by
            clear l
            have : ∀ {p q : P} {us : List P} {z : Int}, W C p q us z → us ≠ [] → q ∈ us := by
              intro p q us z w'
              induction w' with
              | nil => intro n; exact absurd rfl n
              | @cons a b c m s vs e k ih =>
                intro _
                cases vs with
                | nil => obtain ⟨rfl, _⟩ := k.zero; exact List.mem_cons_self ..
                | cons u r => exact List.mem_cons_of_mem _ (ih (by simp))
            exact this w (by simp))
          exact w.sub i b (by
            have : ∀ {p q : P} {us : List P} {z : Int}, W C p q us z → us ≠ [] → q ∈ us := by
              intro p q us z w'
              induction w' with
              | nil => intro n; exact absurd rfl n
              | @cons a b c m s vs e k ih =>
                intro _
                cases vs with
                | nil => obtain ⟨rfl, _⟩ := k.zero; exact List.mem_cons_self ..
                | cons u r => exact List.mem_cons_of_mem _ (ih (by simp))
            exact this w (by simp))
      obtain ⟨t, e1, l1⟩ := x.c d b vs s (i _ e).2 w (by simpa using l)
      obtain ⟨u, u1, u2⟩ := h.c _ _ _ _ _ (hd _ e _ hb) e1
      exact ⟨u, u1, by omega⟩
end KN

set_option linter.all false
namespace KN
variable {P : Type} [DecidableEq P]
theorem W.last {C : List (Cond P)} {V : List P} (i : In V C) {a b : P} {vs : List P} {s : Int} (w : W C a b vs s) (ha : a ∈ V) : b ∈ V := by
  induction w with
  | nil => exact ha
  | cons e _ ih => exact ih (i _ e).2
theorem W.first {C : List (Cond P)} {V : List P} (i : In V C) {a b : P} {vs : List P} {s : Int} (w : W C a b vs s) (hn : vs ≠ []) : a ∈ V := by
  cases w with
  | nil => exact absurd rfl hn
  | cons e _ => exact (i _ e).1
theorem ring_in {C : List (Cond P)} {V : List P} (i : In V C) (r : Ring C) : ∃ p ∈ V, ∃ vs s, W C p p vs s ∧ s < 0 ∧ 1 ≤ vs.length ∧ vs.length ≤ V.length := by
  obtain ⟨p, vs, s, w, l⟩ := r
  obtain ⟨q, us, t, w2, l2, n2⟩ := ring_short i vs.length (Nat.le_refl _) w l
  have hn : us ≠ [] := by
    rintro rfl
    obtain ⟨_, rfl⟩ := w2.zero
    omega
  exact ⟨q, w2.first i hn, us, t, w2, l2, List.length_pos_iff.mpr hn, n2⟩

/-- what the search for a ring finds -/
theorem ring_iff {C : List (Cond P)} {V : List P} (i : In V C) (F : Nat → Tab P) (h : ∀ k, k ≤ V.length → Exact C V k (F k)) :
    Ring C ↔ ∃ k, k < V.length ∧ ∃ a d m t, (a, d, m) ∈ C ∧ F k d a = some t ∧ m + t < 0 := by
  constructor
  · intro r
    obtain ⟨p, hp, vs, s, w, l, l1, l2⟩ := ring_in i r
    cases w with
    | nil => simp at l1
    | @cons _ d _ m s vs e w =>
      simp only [List.length_cons] at l2
      obtain ⟨t, e1, e2⟩ := (h vs.length (by omega)).c d p vs s (i _ e).2 w rfl
      exact ⟨vs.length, by omega, p, d, m, t, e, e1, by omega⟩
  · rintro ⟨k, hk, a, d, m, t, e, e1, l⟩
    obtain ⟨vs, w, _⟩ := (h k (by omega)).s d a t e1
    exact ⟨a, _, _, .cons e w, l⟩
/-- the least sum among ways -/
def Least (C : List (Cond P)) (a b : P) : Option Int → Prop
  | none => ∀ vs s, ¬ W C a b vs s
  | some t => (∃ vs, W C a b vs t) ∧ ∀ vs s, W C a b vs s → t ≤ s
theorem Least.one {C : List (Cond P)} {a b : P} : ∀ {x y : Option Int}, Least C a b x → Least C a b y → x = y
  | none, none, _, _ => rfl
  | none, some t, h, ⟨⟨vs, w⟩, _⟩ => (h vs t w).elim
  | some t, none, ⟨⟨vs, w⟩, _⟩, h => (h vs t w).elim
  | some t, some u, ⟨⟨vs, w⟩, h⟩, ⟨⟨vs', w'⟩, h'⟩ => by
    have := h _ _ w'
    have := h' _ _ w
    rw [show t = u by omega]
theorem Least.imp {C : List (Cond P)} {c : Cond P} (nn : ¬ Ring C) : ∀ {x : Option Int}, Least C c.1 c.2.1 x → (Imp C c ↔ ∃ t, x = some t ∧ t ≤ c.2.2)
  | none, h => ⟨fun k => (k.resolve_left nn).elim fun vs ⟨s, w, _⟩ => (h vs s w).elim, fun ⟨_, e, _⟩ => nomatch e⟩
  | some t, ⟨⟨vs, w⟩, h⟩ => ⟨fun k => by
      obtain ⟨us, s, w', l⟩ := k.resolve_left nn
      exact ⟨t, rfl, Int.le_trans (h _ _ w') l⟩, fun ⟨u, e, l⟩ => by cases e; exact .inr ⟨vs, t, w, l⟩⟩
/-- what the tables of few conditions have, without a ring -/
theorem least_of {C : List (Cond P)} {V : List P} (i : In V C) (nn : ¬ Ring C) (F : Nat → Tab P) (h : ∀ k, k ≤ V.length → Exact C V k (F k)) {a b : P} (ha : a ∈ V) {x : Option Int}
    (hx : match x with | none => ∀ k, k ≤ V.length → F k a b = none | some t => (∃ k, k ≤ V.length ∧ F k a b = some t) ∧ ∀ k, k ≤ V.length → ∀ s, F k a b = some s → t ≤ s) : Least C a b x := by
  have few : ∀ vs s, W C a b vs s → ∃ k, k ≤ V.length ∧ ∃ t, F k a b = some t ∧ t ≤ s := fun vs s w => by
    obtain ⟨us, t, w', l1, l2⟩ := short i (noNeg_iff.mpr nn) vs.length (Nat.le_refl _) ha w
    obtain ⟨u, e, l3⟩ := (h us.length (by omega)).c a b us t ha w' rfl
    exact ⟨us.length, by omega, u, e, by omega⟩
  cases x with
  | none =>
    intro vs s w
    obtain ⟨k, hk, t, e, _⟩ := few vs s w
    rw [hx k hk] at e
    cases e
  | some t =>
    obtain ⟨⟨k, hk, e⟩, hm⟩ := hx
    obtain ⟨vs, w, _⟩ := (h k hk).s a b t e
    refine ⟨⟨vs, w⟩, fun us s w' => ?_⟩
    obtain ⟨k', hk', u, e', l⟩ := few us s w'
    exact Int.le_trans (hm k' hk' u e') l

/-! ### the law's own table, bettered in place -/
structure Bett (C : List (Cond P)) (V : List P) (r : Nat) (f : Tab P) : Prop where
  s : ∀ a b s, f a b = some s → ∃ vs, W C a b vs s
  c : ∀ a b vs s, a ∈ V → W C a b vs s → vs.length ≤ r → ∃ t, f a b = some t ∧ t ≤ s
theorem Bett.zero {C : List (Cond P)} {V : List P} {f : Tab P} (h : ∀ a b s, f a b = some s ↔ (a ∈ V ∧ a = b ∧ s = 0)) : Bett C V 0 f where
  s := fun a b s e => by
    obtain ⟨_, rfl, rfl⟩ := (h a b s).mp e
    exact ⟨[], .nil⟩
  c := fun a b vs s ha w l => by
    cases vs with
    | nil =>
      obtain ⟨rfl, rfl⟩ := w.zero
      exact ⟨0, (h a a 0).mpr ⟨ha, rfl, rfl⟩, Int.le_refl _⟩
    | cons x r => simp at l
/-- a round under way -/
structure Rnd (C : List (Cond P)) (f0 f : Tab P) (D : Cond P → P → Prop) : Prop where
  s : ∀ a b s, f a b = some s → ∃ vs, W C a b vs s
  b : Below f0 f
  c : ∀ a d m b t, D (a, d, m) b → f0 d b = some t → ∃ s, f a b = some s ∧ s ≤ m + t
theorem Rnd.start {C : List (Cond P)} {V : List P} {r : Nat} {f : Tab P} (h : Bett C V r f) : Rnd C f f (fun _ _ => False) :=
  ⟨h.s, .refl, fun _ _ _ _ _ q => q.elim⟩
theorem Rnd.skip {C : List (Cond P)} {f0 f : Tab P} {D : Cond P → P → Prop} (h : Rnd C f0 f D) {a d b : P} {m : Int} (e : f d b = none) :
    Rnd C f0 f (fun x y => D x y ∨ (x = (a, d, m) ∧ y = b)) :=
  ⟨h.s, h.b, fun a' d' m' b' t k q => by
    rcases k with k | ⟨k, rfl⟩
    · exact h.c _ _ _ _ _ k q
    · injection k with k1 k2
      injection k2 with k2 k3
      subst k1 k2 k3
      obtain ⟨u, e', _⟩ := h.b _ _ _ q
      rw [e] at e'
      cases e'⟩
/-- found[one, near] = min(total, found.get((one, near), total)) -/
theorem Rnd.put {C : List (Cond P)} {f0 f : Tab P} {D : Cond P → P → Prop} (h : Rnd C f0 f D) {a d b : P} {m t z : Int} (hc : (a, d, m) ∈ C) (e : f d b = some t)
    (hz : (z = m + t ∧ ∀ s, f a b = some s → m + t ≤ s) ∨ (f a b = some z ∧ z ≤ m + t)) : Rnd C f0 (f.put a b z) (fun x y => D x y ∨ (x = (a, d, m) ∧ y = b)) := by
  have bl : Below f (f.put a b z) := .put fun s q => by
    rcases hz with ⟨rfl, k⟩ | ⟨k, _⟩
    · exact k s q
    · rw [k] at q; cases q; exact Int.le_refl _
  have zl : z ≤ m + t := by
    rcases hz with ⟨rfl, _⟩ | ⟨_, k⟩
    · exact Int.le_refl _
    · exact k
  refine ⟨fun a' b' s q => ?_, h.b.trans bl, fun a' d' m' b' t' q r => ?_⟩
  · by_cases y : a' = a ∧ b' = b
    · obtain ⟨rfl, rfl⟩ := y
      rw [Tab.put_same] at q
      cases q
      rcases hz with ⟨rfl, _⟩ | ⟨k, _⟩
      · obtain ⟨vs, w⟩ := h.s _ _ _ e
        exact ⟨_, .cons hc w⟩
      · exact h.s _ _ _ k
    · rw [Tab.put_ne y] at q
      exact h.s _ _ _ q
  · rcases q with q | ⟨q, rfl⟩
    · obtain ⟨s, q1, q2⟩ := h.c _ _ _ _ _ q r
      obtain ⟨u, u1, u2⟩ := bl _ _ _ q1
      exact ⟨u, u1, by omega⟩
    · injection q with k1 k2
      injection k2 with k2 k3
      subst k1 k2 k3
      obtain ⟨u, u1, u2⟩ := h.b _ _ _ r
      rw [e] at u1
      cases u1
      exact ⟨z, Tab.put_same, by omega⟩
theorem Rnd.weaken {C : List (Cond P)} {f0 f : Tab P} {D E : Cond P → P → Prop} (h : Rnd C f0 f D) (i : ∀ x y, E x y → D x y) : Rnd C f0 f E :=
  ⟨h.s, h.b, fun a d m b t q => h.c a d m b t (i _ _ q)⟩
theorem Rnd.done {C : List (Cond P)} {V : List P} (i : In V C) {f0 f : Tab P} {D : Cond P → P → Prop} {r : Nat} (h : Rnd C f0 f D) (x : Bett C V r f0) (hd : ∀ c ∈ C, ∀ b ∈ V, D c b) : Bett C V (r + 1) f where
  s := h.s
  c := fun a b vs s ha w l => by
    cases w with
    | nil =>
      obtain ⟨t, e, l1⟩ := x.c a a [] 0 ha .nil (by simp)
      obtain ⟨u, e2, l2⟩ := h.b _ _ _ e
      exact ⟨u, e2, by omega⟩
    | @cons _ d _ m s vs e w =>
      have hb : b ∈ V := w.last i (i _ e).2
      obtain ⟨t, e1, l1⟩ := x.c d b vs s (i _ e).2 w (by simpa using l)
      obtain ⟨u, u1, u2⟩ := h.c _ _ _ _ _ (hd _ e _ hb) e1
      exact ⟨u, u1, by omega⟩
theorem Bett.ring {C : List (Cond P)} {V : List P} (i : In V C) {f : Tab P} (h : Bett C V V.length f) : Ring C ↔ ∃ p ∈ V, ∃ s, f p p = some s ∧ s < 0 := by
  constructor
  · intro r
    obtain ⟨p, hp, vs, s, w, l, _, l2⟩ := ring_in i r
    obtain ⟨t, e, l3⟩ := h.c p p vs s hp w l2
    exact ⟨p, hp, t, e, by omega⟩
  · rintro ⟨p, hp, s, e, l⟩
    obtain ⟨vs, w⟩ := h.s _ _ _ e
    exact ⟨p, vs, s, w, l⟩
theorem Bett.least {C : List (Cond P)} {V : List P} (i : In V C) (nn : ¬ Ring C) {f : Tab P} (h : Bett C V V.length f) {a b : P} (ha : a ∈ V) : Least C a b (f a b) := by
  have few : ∀ vs s, W C a b vs s → ∃ t, f a b = some t ∧ t ≤ s := fun vs s w => by
    obtain ⟨us, t, w', l1, l2⟩ := short i (noNeg_iff.mpr nn) vs.length (Nat.le_refl _) ha w
    obtain ⟨u, e, l3⟩ := h.c a b us t ha w' (by omega)
    exact ⟨u, e, by omega⟩
  cases q : f a b with
  | none =>
    intro vs s w
    obtain ⟨t, e, _⟩ := few vs s w
    rw [q] at e
    cases e
  | some t =>
    obtain ⟨vs, w⟩ := h.s _ _ _ q
    refine ⟨⟨vs, w⟩, fun us s w' => ?_⟩
    obtain ⟨u, e, l⟩ := few us s w'
    rw [q] at e
    cases e
    exact l
/-- two tables of ones without a ring are the same just if all conditions of each follow from the other -/
theorem alike_tabs {C D : List (Cond P)} {V : List P} (iC : In V C) (iD : In V D) (nC : ¬ Ring C) (nD : ¬ Ring D) {f g : Tab P} (hf : Bett C V V.length f) (hg : Bett D V V.length g) :
    (∀ a ∈ V, ∀ b, f a b = g a b) ↔ ((∀ c ∈ D, Imp C c) ∧ (∀ c ∈ C, Imp D c)) := by
  have one : ∀ {C D : List (Cond P)} {f g : Tab P}, In V C → In V D → ¬ Ring C → ¬ Ring D → Bett C V V.length f → Bett D V V.length g →
      (∀ a ∈ V, ∀ b, f a b = g a b) → ∀ c ∈ D, Imp C c := by
    intro C D f g iC iD nC nD hf hg e c hc
    have ha := (iD _ hc).1
    have lc := hf.least iC nC (b := c.2.1) ha
    have ld := hg.least iD nD (b := c.2.1) ha
    rw [e _ ha] at lc
    exact (lc.imp nC).mpr ((ld.imp nD).mp (.mem hc))
  refine ⟨fun e => ⟨one iC iD nC nD hf hg e, one iD iC nD nC hg hf fun a ha b => (e a ha b).symm⟩, fun ⟨h1, h2⟩ a ha b => ?_⟩
  have lc := hf.least iC nC (b := b) ha
  have ld := hg.least iD nD (b := b) ha
  -- D's least is C's
  have go : ∀ {C D : List (Cond P)}, ¬ Ring C → ¬ Ring D → (∀ c ∈ D, Imp C c) → (∀ c ∈ C, Imp D c) → ∀ {x : Option Int}, Least D a b x → Least C a b x := by
    intro C D nC nD h1 h2 x hx
    cases x with
    | none =>
      intro vs s w
      rcases w.over h2 with r | ⟨us, t, w', _⟩
      · exact nD r
      · exact hx us t w'
    | some t =>
      obtain ⟨⟨vs, w⟩, hm⟩ := hx
      rcases w.over h1 with r | ⟨us, u, w', l⟩
      · exact (nC r).elim
      · rcases w'.over h2 with r | ⟨us2, u2, w2, l2⟩
        · exact (nD r).elim
        · have := hm _ _ w2
          have e : u = t := by omega
          subst e
          refine ⟨⟨us, w'⟩, fun vs' s' w3 => ?_⟩
          rcases w3.over h2 with r | ⟨us4, u4, w4, l4⟩
          · exact (nD r).elim
          · have := hm _ _ w4
            omega
  exact lc.one (go nC nD h1 h2 ld)

/-! ### the move: changes bettered in place -/
structure Mov (C : List (Cond P)) (V : List P) (r : Nat) (f : P → Int) : Prop where
  s : ∀ a ∈ V, ∃ b vs, W C a b vs (f a)
  c : ∀ a b vs s, a ∈ V → W C a b vs s → vs.length ≤ r → f a ≤ s
theorem Mov.zero {C : List (Cond P)} {V : List P} {f : P → Int} (h : ∀ a ∈ V, f a = 0) : Mov C V 0 f where
  s := fun a ha => ⟨a, [], (h a ha).symm ▸ .nil⟩
  c := fun a b vs s ha w l => by
    cases vs with
    | nil => obtain ⟨_, rfl⟩ := w.zero; exact Int.le_of_eq (h a ha)
    | cons x r => simp at l
structure MRnd (C : List (Cond P)) (V : List P) (f0 f : P → Int) (D : Cond P → Prop) : Prop where
  s : ∀ a ∈ V, ∃ b vs, W C a b vs (f a)
  b : ∀ a ∈ V, f a ≤ f0 a
  c : ∀ x, D x → f x.1 ≤ f0 x.2.1 + x.2.2
theorem MRnd.start {C : List (Cond P)} {V : List P} {r : Nat} {f : P → Int} (h : Mov C V r f) : MRnd C V f f (fun _ => False) := ⟨h.s, fun _ _ => Int.le_refl _, fun _ q => q.elim⟩
theorem MRnd.put {C : List (Cond P)} {V : List P} {f0 f : P → Int} {D : Cond P → Prop} (i : In V C) (h : MRnd C V f0 f D) {a d : P} {m : Int} (hc : (a, d, m) ∈ C) (hD : ∀ x, D x → x ∈ C) :
    MRnd C V f0 (fun p => if p = a then min (f a) (f d + m) else f p) (fun x => D x ∨ x = (a, d, m)) := by
  have ha := (i _ hc).1
  have hd := (i _ hc).2
  dsimp only at ha hd
  refine ⟨fun p hp => ?_, fun p hp => ?_, fun x q => ?_⟩
  · split
    · rename_i e
      subst e
      by_cases l : f p ≤ f d + m
      · rw [Int.min_eq_left l]; exact h.s p hp
      · rw [Int.min_eq_right (by omega)]
        obtain ⟨b, vs, w⟩ := h.s d hd
        have w2 : W C p b (d :: vs) (m + f d) := .cons hc w
        rw [Int.add_comm] at w2
        exact ⟨b, _, w2⟩
    · exact h.s p hp
  · split
    · rename_i e
      subst e
      exact Int.le_trans (Int.min_le_left _ _) (h.b p hp)
    · exact h.b p hp
  · rcases q with q | rfl
    · have := h.c x q
      split
      · rename_i e
        have z := Int.min_le_left (f a) (f d + m)
        rw [e] at this
        exact Int.le_trans z this
      · exact this
    · rw [if_pos rfl]
      have z := Int.min_le_right (f a) (f d + m)
      have z2 := h.b d hd
      show min (f a) (f d + m) ≤ f0 d + m
      exact Int.le_trans z (Int.add_le_add_right z2 m)
theorem MRnd.done {C : List (Cond P)} {V : List P} (i : In V C) {f0 f : P → Int} {D : Cond P → Prop} {r : Nat} (h : MRnd C V f0 f D) (x : Mov C V r f0) (hd : ∀ c ∈ C, D c) : Mov C V (r + 1) f where
  s := h.s
  c := fun a b vs s ha w l => by
    cases w with
    | nil =>
      have := x.c a a [] 0 ha .nil (by simp)
      have := h.b a ha
      omega
    | @cons _ d _ m s vs e w =>
      have := x.c d b vs s (i _ e).2 w (by simpa using l)
      have := h.c _ (hd _ e)
      dsimp only at this
      omega
theorem Mov.keeps {C : List (Cond P)} {V : List P} (i : In V C) (nn : ¬ Ring C) {f : P → Int} (h : Mov C V V.length f) : ∀ c ∈ C, f c.1 - f c.2.1 ≤ c.2.2 := by
  rintro ⟨a, d, m⟩ hc
  obtain ⟨b, vs, w⟩ := h.s d (i _ hc).2
  have ha := (i _ hc).1
  obtain ⟨us, t, w', l1, l2⟩ := short i (noNeg_iff.mpr nn) (d :: vs).length (Nat.le_refl _) ha (.cons hc w)
  have := h.c a b us t ha w' (by omega)
  dsimp only
  omega
end KN

set_option Elab.async false
set_option linter.all false
set_option maxRecDepth 100000
set_option maxHeartbeats 2000000
namespace KM
open PySem PySem.Spec PyProof.Rows L2 GL

def top (i : Nat) : Stmt := PySem.Challenge.pw_lateledger_k53_whole_needless_and_alike.main.body.getD i (.Pass ⟨0, 0, 0, 0⟩)
abbrev sPot : Stmt := top 54
abbrev sDraw : Stmt := top 55
abbrev sPick : Stmt := top 56

/-- built-in names that the text leaves as they are -/
structure Bi (mg : Str → Option Value) : Prop where
  len : mg "len" = none
  divmod : mg "divmod" = none
  int : mg "int" = none
  abs : mg "abs" = none
  max : mg "max" = none
  min : mg "min" = none
  range : mg "range" = none
  list : mg "list" = none
  tuple : mg "tuple" = none
  repr : mg "repr" = none
  sorted : mg "sorted" = none
  enumerate : mg "enumerate" = none
  all : mg "all" = none
  any : mg "any" = none
  isinstance : mg "isinstance" = none
  str : mg "str" = none
  bool : mg "bool" = none
  dict : mg "dict" = none
  sum : mg "sum" = none
  reversed : mg "reversed" = none

/-- a pot stands at p -/
def PotAt (H : Hp) (p : Addr) : Prop := ∃ a b : Int, H p = some (.lst [.int a, .int b]) ∧ 0 ≤ a ∧ 0 ≤ b ∧ b < 4294967296
theorem cdiv {i j : Int} (h0 : 0 < j) (h1 : j < 1048576) : CDivP i j := by
  refine ⟨h0, ?_⟩
  unfold Builtin.divisionGoesByPylong
  have z : j.natAbs.log2 / 30 + 1 ≤ 300 := by
    have : j.natAbs.log2 < 20 := (Nat.log2_lt (by omega)).mpr (by omega)
    omega
  have z2 : ¬ (j = 0) := by omega
  simp [z2]
  omega

/-- draw(pot, n): from 0 to n - 1; the pot stays one -/
def spDraw : Sp := fun vs H Q _ => ∃ (p : Addr) (n : Int), vs = [.ref p, .int n] ∧ PotAt H p ∧ 0 < n ∧ n < 1048576 ∧
  ∀ (d : Int) (H' : Hp), 0 ≤ d → d < n → PotAt H' p → But p H H' → Q (.int d) H'

section
variable {P : Program} {w : World} {K : PySem.W.Frag} {mg : Str → Option Value} {base : Heap}

theorem scDraw : FnScope ["_law_pot_here", "_law_many", "_law_digit"] ["_law_pot_here", "_law_many"] (defScope sDraw) :=
  ⟨rfl, rfl, rfl, by decide +kernel, rfl, by decide +kernel, by decide +kernel⟩
theorem ok_draw {f : Addr} {fd : FuncData} (F : Fun K "_law_draw" "_law_draw" sDraw f fd) (T : Bi mg) : FnG P w K mg base CX0 1 f fd ["_law_pot_here", "_law_many"] spDraw := by
  refine okG F scDraw (fun vs H Q E h => ?_) (fun cdv A out s H vs Q E g hr h => ?_)
  · obtain ⟨p, n, rfl, _⟩ := h
    rfl
  · obtain ⟨p, n, rfl, ⟨a, b, hp, ha, hb, hb2⟩, hn, hn2, q⟩ := h
    refine ⟨_, pss_cons (ps_if (pt_cmpR op_gt (pe_ix ix_list (pv 0) pe_int (fun _ _ => rfl)) pe_int (nomark _))
        (pss_cons (ps_asg (pe_callB call_divmodW (by rfl) T.divmod (by decide +kernel) (pa_cons (pe_ix ix_list (pv 0) pe_int (fun _ _ => rfl)) (pa_cons (pv 1) pa_nil)))
          (pg_tup rfl (pgs_cons (pg_sub (pv 0) pe_int set_list) (pgs_cons (pg_name (i := 2) scDraw.nd rfl (.inl rfl)) pgs_nil)))) (pss_one (ps_ret (pv 2)))) pss_nil)
      (pss_cons (ps_asg (pe_op op_mod_l (pe_callTy call_int1 (by rfl) T.int (by decide +kernel) (pa_cons (pe_op op_add (pe_op op_mul (pe_ix ix_list (pv 0) pe_int (fun _ _ => rfl)) pe_int) pe_int) pa_nil)) pe_int)
          (pg_sub (pv 0) pe_int set_list))
      (pss_one (ps_ret (pe_op op_mod_l (pe_callTy call_int1 (by rfl) T.int (by decide +kernel) (pa_cons (pe_op op_div_l (pe_op op_mod_l
        (pe_callTy call_int1 (by rfl) T.int (by decide +kernel) (pa_cons (pe_op op_mul (pe_ix ix_list (pv 0) pe_int (fun _ _ => rfl)) (pe_ix ix_list (pv 0) pe_int (fun _ _ => rfl))) pa_nil)) pe_int) pe_int) pa_nil)) (pv 1))))), ?_⟩
    refine ⟨_, rfl, p, _, 0, .int a, rfl, rfl, SqL.of hp, rfl, a, 0, rfl, rfl, _, rfl, ?_⟩
    refine ite2 (fun c => ?_) (fun c => ?_)
    · have c0 : 0 < a := of_decide_eq_true c
      refine ⟨_, rfl, p, _, 0, .int a, rfl, rfl, SqL.of hp, rfl, _, rfl, a, n, rfl, cdiv hn hn2, fun t ht => ?_⟩
      have npt : p ≠ t := ne_of_none hp ht
      refine ⟨t, _, rfl, SqT.of upd_same, rfl, _, _, rfl, _, rfl, p, _, 0, 0, rfl, rfl, (by rw [upd_ne npt]; exact hp), rfl, _, _, rfl, rfl, _, rfl, ?_⟩
      refine q (a % n) _ (Int.emod_nonneg _ (by omega)) (Int.emod_lt_of_pos _ hn) ⟨a / n, b, upd_same, Int.ediv_nonneg ha (by omega), hb, hb2⟩ ?_
      exact (But.new But.refl ht).upd
    · refine ⟨_, rfl, p, _, 1, .int b, rfl, rfl, SqL.of hp, rfl, _, _, rfl, rfl, .inl ⟨by omega, by omega⟩, _, _, rfl, rfl, .inl ⟨_, rfl, _, _, rfl, rfl, (by decide), fun b' n1 n2 _ => ?_⟩⟩
      refine ⟨_, rfl, p, _, 1, 1, rfl, rfl, hp, rfl, ?_⟩
      refine ⟨_, rfl, p, _, 1, .int b', rfl, rfl, SqL.of upd_same, rfl, _, rfl, p, _, 1, .int b', rfl, rfl, SqL.of upd_same, rfl, _, _, rfl, rfl, .inl ⟨by omega, by omega⟩, .inl ⟨_, rfl, _, _, rfl, rfl, (by decide), fun c1 _ _ _ => ?_⟩⟩
      refine ⟨_, _, rfl, rfl, ⟨by decide, by decide⟩, fun c2 _ => .inl ⟨_, rfl, _, rfl, _, _, rfl, rfl, hn, fun d d0 d1 _ => ?_⟩⟩
      exact q d _ d0 d1 ⟨a, b', upd_same, ha, n1, by omega⟩ But.refl.upd

/-- pick(pot, some): one of the list -/
def spPick (K : PySem.W.Frag) : Sp := fun vs H Q _ => ∃ (p l : Addr) (xs : List V), vs = [.ref p, .ref l] ∧ PotAt H p ∧ SqL K H l xs ∧ l ≠ p ∧ 0 < xs.length ∧ xs.length < 1048576 ∧
  ∀ (i : Nat) (x : V) (H' : Hp), xs[i]? = some x → PotAt H' p → But p H H' → Q x H'
theorem scPick : FnScope ["_law_pot_here", "_law_some"] ["_law_pot_here", "_law_some"] (defScope sPick) :=
  ⟨rfl, rfl, rfl, by decide +kernel, rfl, by decide +kernel, by decide +kernel⟩
theorem atI_of {xs : List V} {d : Int} (h0 : 0 ≤ d) (h1 : d < xs.length) : ∃ v, atI xs d = some v ∧ xs[d.toNat]? = some v := by
  have n : d.toNat < xs.length := by omega
  refine ⟨xs[d.toNat], ?_, List.getElem?_eq_getElem n⟩
  unfold atI ixN
  rw [if_pos h0, if_pos h1]
  simp [n]
theorem ok_pick {f : Addr} {fd : FuncData} (F : Fun K "_law_pick" "_law_pick" sPick f fd) (T : Bi mg)
    (D : Has P w K mg base "_law_draw" 1 ["_law_pot_here", "_law_many"] spDraw) :
    FnG P w K mg base CX0 2 f fd ["_law_pot_here", "_law_some"] (spPick K) := by
  refine okG F scPick (fun vs H Q E h => ?_) (fun cdv A out s H vs Q E g hr h => ?_)
  · obtain ⟨p, l, xs, rfl, _⟩ := h
    rfl
  · obtain ⟨p, l, xs, rfl, hp, hl, hne, h0, h1, q⟩ := h
    refine ⟨_, pss_one (ps_ret (pe_ix ix_list (pv 1) (pe_has D g hr (by rfl) (pa_cons (pv 0) (pa_cons (pe_callB call_len_seq (by rfl) T.len PySem.boot_len (pa_cons (pv 1) pa_nil)) pa_nil))) (fun _ _ => rfl))), ?_⟩
    refine ⟨_, rfl, _, rfl, _, rfl, l, xs, rfl, .inl hl, rfl, rfl, p, _, rfl, hp, by omega, by omega, fun d H' d0 d1 hp' b => ?_⟩
    obtain ⟨v, e1, e2⟩ := atI_of d0 d1
    exact ⟨l, xs, d, v, rfl, rfl, b.seq hne hl, e1, q _ v H' e2 hp' b⟩
end
end KM

set_option Elab.async false
set_option linter.all false
set_option maxRecDepth 100000
set_option maxHeartbeats 2000000
namespace KM
open PySem PySem.Spec PyProof.Rows L2 GL

/-! ### the data: goods, rows -/
abbrev Row := Option Str × Option Str × Int
def oV : Option Str → V
  | none => .non
  | some x => .str x
def oD : Option Str → PyData
  | none => .none
  | some x => .str x
def rowV (r : Row) : List V := [oV r.1, oV r.2.1, .int r.2.2]
def rowD (r : Row) : PyData := .tuple [oD r.1, oD r.2.1, .int r.2.2]
def gsD (gs : List Str) : PyData := .list (gs.map .str)
def rowsD (rs : List Row) : PyData := .list (rs.map rowD)
def names : List Str := ["x", "y", "oil", "tea", "b", "a", "c", "d", "zz"]
structure GoodGs (gs : List Str) : Prop where
  nd : gs.Nodup
  sub : ∀ x ∈ gs, x ∈ names
  l1 : 1 ≤ gs.length
  l2 : gs.length ≤ 4
structure GoodRow (gs : List Str) (r : Row) : Prop where
  ne : r.1 ≠ r.2.1
  one : ∀ x, r.1 = some x → x ∈ gs
  two : ∀ x, r.2.1 = some x → x ∈ gs
  most : r.2.2.natAbs ≤ 100
abbrev GoodRows (gs : List Str) (rs : List Row) : Prop := ∀ r ∈ rs, GoodRow gs r
theorem GoodGs.perm {gs hs : List Str} (h : GoodGs gs) (p : hs.Perm gs) : GoodGs hs :=
  ⟨(p.nodup_iff).mpr h.nd, fun x hx => h.sub x (p.mem_iff.mp hx), by rw [p.length_eq]; exact h.l1, by rw [p.length_eq]; exact h.l2⟩
theorem GoodRow.of_sub {gs hs : List Str} {r : Row} (h : GoodRow gs r) (s : ∀ x ∈ gs, x ∈ hs) : GoodRow hs r :=
  ⟨h.ne, fun x e => s _ (h.one x e), fun x e => s _ (h.two x e), h.most⟩

/-! ### where they stand -/
def RowAt (H : Hp) (t : Addr) (r : Row) : Prop := H t = some (.tup (rowV r))
abbrev RowsIn (H : Hp) (as : List Addr) (rs : List Row) : Prop := Paired (RowAt H) as rs
theorem rows_keep {H H' : Hp} {as : List Addr} {rs : List Row} (h : RowsIn H as rs) (k : ∀ t xs, H t = some (.tup xs) → H' t = some (.tup xs)) : RowsIn H' as rs :=
  L2.Paired.mapP h fun t r e => k t _ e
theorem rows_but {p : Addr} {zs : List V} {H H' : Hp} {as : List Addr} {rs : List Row} (h : RowsIn H as rs) (b : But p H H') (e : H p = some (.lst zs)) : RowsIn H' as rs :=
  rows_keep h fun t xs z => b t _ (ne_of z e (by intro q; cases q)) z
theorem rows_same {H H' : Hp} {as : List Addr} {rs : List Row} (h : RowsIn H as rs) (b : Same H H') : RowsIn H' as rs :=
  rows_keep h fun t xs z => b t _ z

/-! ### as data -/
theorem dp_o {K : PySem.W.Frag} {H : Hp} : ∀ o : Option Str, Dp K H (oV o) (oD o)
  | none => .non
  | some x => .str x
theorem dp_row {K : PySem.W.Frag} {H : Hp} {t : Addr} {r : Row} (h : RowAt H t r) : Dp K H (.ref t) (rowD r) :=
  .tup (SqT.of h) (.cons (dp_o _) (.cons (dp_o _) (.cons (.int _) .nil)))
theorem dp_rowsAll {K : PySem.W.Frag} {H : Hp} : ∀ {as : List Addr} {rs : List Row}, RowsIn H as rs → DpAll K H (as.map V.ref) (rs.map rowD)
  | _, _, .nil => .nil
  | _, _, .cons h t => .cons (dp_row h) (dp_rowsAll t)
theorem dp_rows {K : PySem.W.Frag} {H : Hp} {c : Addr} {as : List Addr} {rs : List Row} (h : RowsIn H as rs) (e : SqL K H c (as.map V.ref)) : Dp K H (.ref c) (rowsD rs) :=
  .lst e (dp_rowsAll h)
theorem dp_strs {K : PySem.W.Frag} {H : Hp} : ∀ gs : List Str, DpAll K H (gs.map V.str) (gs.map PyData.str)
  | [] => .nil
  | x :: r => .cons (.str x) (dp_strs r)
theorem dp_gs {K : PySem.W.Frag} {H : Hp} {c : Addr} {gs : List Str} (e : SqL K H c (gs.map V.str)) : Dp K H (.ref c) (gsD gs) := .lst e (dp_strs gs)

/-! ### what is shown of them -/
theorem name_len : ∀ x ∈ names, (reprText x).length ≤ 5 := by decide +kernel
theorem shownAll_map {α : Type} (f : α → PyData) : ∀ l : List α, PyData.shownAll (l.map f) = l.map fun a => (f a).shown
  | [] => rfl
  | a :: l => by
    show (f a).shown :: PyData.shownAll (l.map f) = _
    rw [shownAll_map f l]
    rfl
theorem showableAll_map {α : Type} (f : α → PyData) : ∀ l : List α, (∀ a ∈ l, (f a).showable = true) → PyData.showableAll (l.map f) = true
  | [], _ => rfl
  | a :: l, h => by
    show ((f a).showable && PyData.showableAll (l.map f)) = true
    rw [h a List.mem_cons_self, showableAll_map f l fun b hb => h b (List.mem_cons_of_mem _ hb)]
    rfl
theorem hasDictAll_map {α : Type} (f : α → PyData) : ∀ l : List α, (∀ a ∈ l, (f a).hasDict = false) → PyData.hasDictAll (l.map f) = false
  | [], _ => rfl
  | a :: l, h => by
    show ((f a).hasDict || PyData.hasDictAll (l.map f)) = false
    rw [h a List.mem_cons_self, hasDictAll_map f l fun b hb => h b (List.mem_cons_of_mem _ hb)]
    rfl
theorem depthAll_map {α : Type} (f : α → PyData) (n : Nat) : ∀ l : List α, (∀ a ∈ l, (f a).depth ≤ n) → PyData.depthAll (l.map f) ≤ n
  | [], _ => Nat.zero_le _
  | a :: l, h => by
    show max (f a).depth (PyData.depthAll (l.map f)) ≤ n
    have := h a List.mem_cons_self
    have := depthAll_map f n l fun b hb => h b (List.mem_cons_of_mem _ hb)
    omega
theorem sum_le {α : Type} (f : α → Nat) (n : Nat) : ∀ l : List α, (∀ a ∈ l, f a ≤ n) → (l.map f).sum ≤ n * l.length
  | [], _ => Nat.zero_le _
  | a :: l, h => by
    have h1 := h a List.mem_cons_self
    have h2 := sum_le f n l fun b hb => h b (List.mem_cons_of_mem _ hb)
    rw [List.map_cons, List.sum_cons, List.length_cons, Nat.mul_succ]
    omega
/-- the facts of one thing that is shown -/
structure Sh (d : PyData) (n k : Nat) : Prop where
  ok : d.showable = true
  nd : d.hasDict = false
  len : d.shown.length ≤ n
  low : d.depth ≤ k
theorem Sh.shows {d : PyData} {n k : Nat} (h : Sh d n k) (hn : n ≤ 16777216) (hk : k ≤ 8) : Shows d :=
  ⟨h.ok, h.nd, by rw [sizeLine_eq]; exact Nat.le_trans h.len hn, Nat.le_trans h.low hk⟩
theorem sh_o {gs : List Str} (G : GoodGs gs) : ∀ o : Option Str, (∀ x, o = some x → x ∈ gs) → Sh (oD o) 5 0
  | none, _ => ⟨rfl, rfl, by decide +kernel, Nat.le_refl _⟩
  | some x, h => ⟨rfl, rfl, name_len x (G.sub x (h x rfl)), Nat.le_refl _⟩
theorem sh_int {i : Int} (h : i.natAbs ≤ 100) : Sh (.int i) 4 0 := by
  refine ⟨?_, rfl, ?_, Nat.le_refl _⟩
  · show decide (i.natAbs.log2 < 1920) = true
    refine decide_eq_true ?_
    by_cases z : i.natAbs = 0
    · rw [z]; decide
    · exact Nat.lt_of_lt_of_le ((Nat.log2_lt z).mpr (by omega : i.natAbs < 2 ^ 7)) (by decide)
  · show (Str.ofString (toString i)).length ≤ 4
    have q : (toString i).length ≤ 3 + 1 := int_text_length_le10 (k := 3) (by decide) (by omega)
    have e := PySem.ofString_length (toString i)
    omega
theorem sh_row {gs : List Str} (G : GoodGs gs) {r : Row} (h : GoodRow gs r) : Sh (rowD r) 23 1 := by
  have a := sh_o G r.1 h.one
  have b := sh_o G r.2.1 h.two
  have c := sh_int h.most
  refine ⟨?_, ?_, ?_, ?_⟩
  · show ((oD r.1).showable && ((oD r.2.1).showable && ((PyData.int r.2.2).showable && true))) = true
    rw [a.ok, b.ok, c.ok]; rfl
  · show ((oD r.1).hasDict || ((oD r.2.1).hasDict || ((PyData.int r.2.2).hasDict || false))) = false
    rw [a.nd, b.nd, c.nd]; rfl
  · show (tupleText [(oD r.1).shown, (oD r.2.1).shown, (PyData.int r.2.2).shown]).length ≤ 23
    refine Nat.le_trans (tupleText_len_le _) ?_
    have := a.len; have := b.len; have := c.len
    simp only [List.map_cons, List.map_nil, List.sum_cons, List.sum_nil, List.length_cons, List.length_nil]
    omega
  · show max (oD r.1).depth (max (oD r.2.1).depth (max (PyData.int r.2.2).depth 0)) + 1 ≤ 1
    have := a.low; have := b.low; have := c.low
    omega
theorem sh_list {α : Type} (f : α → PyData) (l : List α) {n k : Nat} (h : ∀ a ∈ l, Sh (f a) n k) : Sh (.list (l.map f)) (n * l.length + 2 * l.length + 3) (k + 1) := by
  refine ⟨showableAll_map f l fun a ha => (h a ha).ok, hasDictAll_map f l fun a ha => (h a ha).nd, ?_, ?_⟩
  · show (listText (PyData.shownAll (l.map f))).length ≤ _
    rw [shownAll_map]
    refine Nat.le_trans (listText_len_le _) ?_
    rw [List.map_map, List.length_map]
    have := sum_le (fun a => (f a).shown.length) n l fun a ha => (h a ha).len
    show (l.map fun a => (f a).shown.length).sum + _ + 3 ≤ _
    omega
  · show PyData.depthAll (l.map f) + 1 ≤ k + 1
    exact Nat.succ_le_succ (depthAll_map f k l fun a ha => (h a ha).low)
theorem sh_gs {gs : List Str} (G : GoodGs gs) : Sh (gsD gs) 31 1 := by
  have z := sh_list PyData.str gs (n := 5) (k := 0) fun x hx => ⟨rfl, rfl, name_len x (G.sub x hx), Nat.le_refl _⟩
  exact ⟨z.ok, z.nd, by have := z.len; have := G.l2; show (PyData.list (gs.map .str)).shown.length ≤ 31; omega, z.low⟩
theorem sh_rows {gs : List Str} (G : GoodGs gs) {rs : List Row} (h : GoodRows gs rs) : Sh (rowsD rs) (25 * rs.length + 3) 2 := by
  have z := sh_list rowD rs (n := 23) (k := 1) fun r hr => sh_row G (h r hr)
  exact ⟨z.ok, z.nd, by have := z.len; show (PyData.list (rs.map rowD)).shown.length ≤ _; omega, z.low⟩
def toldD (gs : List Str) (rs : List Row) : PyData := .list [gsD gs, rowsD rs]
theorem sh_told {gs hs : List Str} (G : GoodGs gs) (p : hs.Perm gs) {rs : List Row} (h : GoodRows gs rs) (hl : rs.length ≤ 1000) : Sh (toldD hs rs) 60000 3 := by
  have a := sh_gs (G.perm p)
  have b := sh_rows G h
  refine ⟨?_, ?_, ?_, ?_⟩
  · show ((gsD hs).showable && ((rowsD rs).showable && true)) = true
    rw [a.ok, b.ok]; rfl
  · show ((gsD hs).hasDict || ((rowsD rs).hasDict || false)) = false
    rw [a.nd, b.nd]; rfl
  · show (listText [(gsD hs).shown, (rowsD rs).shown]).length ≤ _
    refine Nat.le_trans (listText_len_le _) ?_
    have := a.len; have := b.len
    simp only [List.map_cons, List.map_nil, List.sum_cons, List.sum_nil, List.length_cons, List.length_nil]
    omega
  · show max (gsD hs).depth (max (rowsD rs).depth 0) + 1 ≤ 3
    have := a.low; have := b.low
    omega
end KM

set_option Elab.async false
set_option linter.all false
set_option maxRecDepth 100000
set_option maxHeartbeats 4000000
namespace KM
open PySem PySem.Spec PyProof.Rows L2 GL
abbrev sScene : Stmt := top 57
def menu : List (List Str) := [["x"], ["x", "y"], ["oil", "tea"], ["b", "oil", "tea"], ["a", "b", "c", "d"]]
theorem menu_good : ∀ gs ∈ menu, GoodGs gs := by
  intro gs h
  have a : ∀ gs ∈ menu, gs.Nodup ∧ (∀ x ∈ gs, x ∈ names) ∧ 1 ≤ gs.length ∧ gs.length ≤ 4 := by decide +kernel
  obtain ⟨h1, h2, h3, h4⟩ := a gs h
  exact ⟨h1, h2, h3, h4⟩
theorem eqv_o : ∀ a b : Option Str, PyData.eqv (oD a) (oD b) = decide (a = b)
  | none, none => by simp [oD, PyData.eqv]
  | none, some _ => by simp [oD, PyData.eqv]
  | some _, none => by simp [oD, PyData.eqv]
  | some x, some y => by
    show (x == y) = decide (some x = some y)
    by_cases h : x = y
    · subst h; simp
    · simp [h]
theorem lay_name : ∀ x ∈ names, PyData.strOk x = true := by decide +kernel
theorem lay_o {gs : List Str} (G : GoodGs gs) : ∀ a : Option Str, (∀ x, a = some x → x ∈ gs) → (oD a).canLay0 = true
  | none, _ => rfl
  | some x, h => lay_name x (G.sub x (h x rfl))
theorem shaped_o {gs : List Str} (G : GoodGs gs) (a : Option Str) (h : ∀ x, a = some x → x ∈ gs) : SeqAt.shaped (oD a) = true := by
  have l := lay_o G a h
  have d : (oD a).depth ≤ 64 := by cases a <;> exact Nat.zero_le _
  show ((oD a).canLay0 && decide ((oD a).depth ≤ 64)) = true
  rw [l, decide_eq_true d]
  rfl
/-- scene(pot, most): goods of the menu, rows of them, most at most -/
def spScene : Sp := fun vs H Q _ => ∃ (p : Addr) (m : Nat), vs = [.ref p, .int (m : Int)] ∧ PotAt H p ∧ m < 100 ∧
  ∀ (gs : List Str) (rs : List Row) (G R t : Addr) (as : List Addr) (H' : Hp), gs ∈ menu → GoodRows gs rs → (∀ r ∈ rs, r.2.2.natAbs ≤ 9) → rs.length ≤ m →
    H t = none → H G = none → H R = none → G ≠ R → H' t = some (.tup [.ref G, .ref R]) → H' G = some (.lst (gs.map V.str)) →
    H' R = some (.lst (as.map V.ref)) → RowsIn H' as rs → PotAt H' p → But p H H' → Q (.ref t) H'
theorem pot_same {H H' : Hp} {p : Addr} (h : PotAt H p) (s : Same H H') : PotAt H' p := by
  obtain ⟨a, b, e, z⟩ := h
  exact ⟨a, b, s _ _ e, z⟩
theorem pot_upd {H : Hp} {p q : Addr} {o : HO} (h : PotAt H p) (n : H q = none) : PotAt (upd H q o) p := by
  obtain ⟨a, b, e, z⟩ := h
  exact ⟨a, b, by rw [upd_ne (ne_of_none e n)]; exact e, z⟩
theorem pot_ne {H : Hp} {p q : Addr} {o : HO} (h : PotAt H p) (n : q ≠ p) : PotAt (upd H q o) p := by
  obtain ⟨a, b, e, z⟩ := h
  exact ⟨a, b, by rw [upd_ne n.symm]; exact e, z⟩
theorem get_map {α β : Type} {f : α → β} {l : List α} {i : Nat} {x : β} (h : (l.map f)[i]? = some x) : ∃ a, l[i]? = some a ∧ x = f a := by
  rw [List.getElem?_map] at h
  cases e : l[i]? with
  | none => rw [e] at h; cases h
  | some a => rw [e] at h; exact ⟨a, rfl, (Option.some.inj h).symm⟩
theorem pt_in {gs : List Str} {i : Nat} {o : Option Str} (h : (gs.map some ++ [none])[i]? = some o) : ∀ x, o = some x → x ∈ gs := by
  intro x e
  subst e
  have m := List.mem_of_getElem? h
  rcases List.mem_append.mp m with m | m
  · obtain ⟨y, hy, e⟩ := List.mem_map.mp m
    cases e
    exact hy
  · simp at m
section
variable {P : Program} {w : World} {K : PySem.W.Frag} {mg : Str → Option Value} {base : Heap}
theorem scScene : FnScope ["_law_pot_here", "_law_most", "_law_goods", "_law_points", "_law_found", "_law_turn", "_law_one", "_law_other"] ["_law_pot_here", "_law_most"] (defScope sScene) :=
  ⟨rfl, rfl, rfl, by decide +kernel, rfl, by decide +kernel, by decide +kernel⟩
theorem ok_scene {f : Addr} {fd : FuncData} (F : Fun K "_law_scene" "_law_scene" sScene f fd) (T : Bi mg)
    (D : Has P w K mg base "_law_draw" 1 ["_law_pot_here", "_law_many"] spDraw) (I : Has P w K mg base "_law_pick" 2 ["_law_pot_here", "_law_some"] (spPick K)) :
    FnG P w K mg base CX0 3 f fd ["_law_pot_here", "_law_most"] spScene := by
  refine okG F scScene (fun vs H Q E h => ?_) (fun cdv A out s H vs Q E g hr h => ?_)
  · obtain ⟨p, m, rfl, _⟩ := h
    rfl
  · obtain ⟨p, m, rfl, hp, hm, q⟩ := h
    have hr1 : Room 1 _ := hr.mono (by decide)
    have hu := hr.units
    refine ⟨_, pss_cons (ps_set (i := 2) scScene.nd rfl (.inl rfl) (pe_has I g hr (by rfl) (pa_cons (pv 0) (pa_cons
          (pe_lstL (pa_cons (pe_lstL (pa_cons pe_str pa_nil)) (pa_cons (pe_lstL (pa_cons pe_str (pa_cons pe_str pa_nil))) (pa_cons (pe_lstL (pa_cons pe_str (pa_cons pe_str pa_nil)))
            (pa_cons (pe_lstL (pa_cons pe_str (pa_cons pe_str (pa_cons pe_str pa_nil)))) (pa_cons (pe_lstL (pa_cons pe_str (pa_cons pe_str (pa_cons pe_str (pa_cons pe_str pa_nil))))) pa_nil)))))) pa_nil))))
      (pss_cons (ps_par (i := 3) (j := 4) (by rfl) scScene.nd rfl rfl (by decide) rfl rfl
        (pa_cons (pe_op op_catL (pv 2) (pe_lstL (pa_cons pe_non pa_nil))) (pa_cons (pe_lstL pa_nil) pa_nil)) (by rfl))
      (pss_cons (ps_for PassesOwn.never rfl (pi_range1 (by rfl) T.range (pa_cons (pe_has D g hr1 (by rfl) (pa_cons (pv 0) (pa_cons (pe_op op_add (pv 1) pe_int) pa_nil))) pa_nil)) (pg_name (i := 5) scScene.nd rfl (.inl rfl))
        (pss_cons (ps_par (i := 6) (j := 7) (by rfl) scScene.nd rfl rfl (by decide) rfl rfl
          (pa_cons (pe_has I g hr (by rfl) (pa_cons (pv 0) (pa_cons (pv 3) pa_nil))) (pa_cons (pe_has I g hr (by rfl) (pa_cons (pv 0) (pa_cons (pv 3) pa_nil))) pa_nil)) (by rfl))
        (pss_one (ps_if (pt_cmpR (op_neD hu) (pv 6) (pv 7) (nomark _))
          (pss_one (ps_expr (pe_bm PySem.F.plainAttrs_list PySem.F.slot_list_append PySem.F.type_list_append mt_appL (pv 4) (pa_cons
            (pe_tupL (pa_cons (pv 6) (pa_cons (pv 7) (pa_cons (pe_has I g hr (by rfl) (pa_cons (pv 0) (pa_cons (pe_lstL (pa_cons pe_int (pa_cons pe_int (pa_cons pe_int (pa_cons pe_int (pa_cons pe_int
              (pa_cons (pe_un un_neg pe_int) (pa_cons (pe_un un_neg pe_int) (pa_cons (pe_has D g hr1 (by rfl) (pa_cons (pv 0) (pa_cons pe_int pa_nil))) pa_nil))))))))) pa_nil))) pa_nil)))) pa_nil)))) pss_nil))))
      (pss_one (ps_ret (pe_tupL (pa_cons (pv 2) (pa_cons (pv 4) pa_nil))))))), ?_⟩
    refine ⟨_, rfl, by show 1 ≤ sizeLine; decide, fun a1 H1 n1 e1 s1 => ⟨by show 2 ≤ sizeLine; decide, fun a2 H2 n2 e2 s2 => ⟨by show 2 ≤ sizeLine; decide, fun a3 H3 n3 e3 s3 =>
      ⟨by show 3 ≤ sizeLine; decide, fun a4 H4 n4 e4 s4 => ⟨by show 4 ≤ sizeLine; decide, fun a5 H5 n5 e5 s5 => ⟨by show 5 ≤ sizeLine; decide, fun a6 H6 n6 e6 s6 => ?_⟩⟩⟩⟩⟩⟩
    have t2 : Same H H2 := s1.trans s2
    have t3 : Same H H3 := t2.trans s3
    have t4 : Same H H4 := t3.trans s4
    have t5 : Same H H5 := t4.trans s5
    have t6 : Same H H6 := t5.trans s6
    have hp6 : PotAt H6 p := pot_same hp t6
    obtain ⟨x0, y0, hpp, _⟩ := id hp
    have np : ∀ {a : Addr}, H a = none → a ≠ p := fun h z => by rw [z, hpp] at h; cases h
    refine ⟨rfl, rfl, p, a6, _, rfl, hp6, SqL.of e6, np (t5.free n6), by show 0 < 5; decide, by show 5 < 1048576; decide, ?_⟩
    intro i x H7 hx hp7 b7
    have pickd : ∃ G gs, x = .ref G ∧ gs ∈ menu ∧ H7 G = some (.lst (gs.map V.str)) ∧ H G = none := by
      match i, hx with
      | 0, hx => cases hx; exact ⟨a1, ["x"], rfl, by decide, b7 _ _ (np n1) (s6 _ _ (s5 _ _ (s4 _ _ (s3 _ _ (s2 _ _ e1))))), n1⟩
      | 1, hx => cases hx; exact ⟨a2, ["x", "y"], rfl, by decide, b7 _ _ (np (s1.free n2)) (s6 _ _ (s5 _ _ (s4 _ _ (s3 _ _ e2)))), s1.free n2⟩
      | 2, hx => cases hx; exact ⟨a3, ["oil", "tea"], rfl, by decide, b7 _ _ (np (t2.free n3)) (s6 _ _ (s5 _ _ (s4 _ _ e3))), t2.free n3⟩
      | 3, hx => cases hx; exact ⟨a4, ["b", "oil", "tea"], rfl, by decide, b7 _ _ (np (t3.free n4)) (s6 _ _ (s5 _ _ e4)), t3.free n4⟩
      | 4, hx => cases hx; exact ⟨a5, ["a", "b", "c", "d"], rfl, by decide, b7 _ _ (np (t4.free n5)) (s6 _ _ e5), t4.free n5⟩
      | i + 5, hx => simp at hx
    obtain ⟨G, gs, rfl, hgs, eG, nG⟩ := pickd
    have c7 : But p H H7 := (But.of t6).trans b7
    have GG := menu_good gs hgs
    clear hx n1 n2 n3 n4 n5 n6 e1 e2 e3 e4 e5 e6 s1 s2 s3 s4 s5 s6 t2 t3 t4 t5 t6 hp6 b7
    -- points, found = (goods + [None], [])
    refine ⟨_, rfl, by show 1 ≤ sizeLine; decide, fun b1 J1 m1 f1 u1 => ⟨G, b1, gs.map V.str, [.non], rfl, rfl, u1 _ _ eG, f1, by rw [List.length_map]; have := GG.l2; show gs.length + 1 ≤ sizeLine; rw [sizeLine_eq]; omega,
      fun Pt J2 m2 f2 u2 => ⟨by show 0 ≤ sizeLine; decide, fun R J3 m3 f3 u3 => ⟨_, _, rfl, ?_⟩⟩⟩⟩
    have hp3 : PotAt J3 p := pot_same (pot_same (pot_same hp7 u1) u2) u3
    have v1 : Same H7 J3 := (u1.trans u2).trans u3
    have c3 : But p H J3 := c7.trans (But.of v1)
    obtain ⟨x7, y7, hpp7, _⟩ := id hp7
    have nR7 : H7 R = none := (u1.trans u2).free m3
    have nR : H R = none := back_but c7 nR7 (ne_some nR7 hpp7)
    have hGR : G ≠ R := ne_of_none eG nR7
    have hPR : Pt ≠ R := ne_of_none f2 m3
    have nP7 : H7 Pt = none := u1.free m2
    have hPp : Pt ≠ p := ne_some nP7 hpp7
    have hGp : G ≠ p := ne_some nG hpp
    have hRp : R ≠ p := ne_some nR hpp
    -- for turn in range(draw(pot, most + 1))
    refine ⟨_, rfl, _, rfl, _, _, rfl, rfl, rfl, rfl, p, _, rfl, hp3, by omega, by omega, fun d H8 d0 d1 hp8 b8 => ⟨d, rfl, by omega, by omega, ?_⟩⟩
    have pts : gs.map V.str ++ [V.non] = (gs.map some ++ [none]).map oV := by simp [oV]
    refine for_range (n := d.toNat) (fun i σ H' => ∃ (as : List Addr) (rs : List Row) (tv ov wv : Option V), σ = [some (.ref p), some (.int m), some (.ref G), some (.ref Pt), some (.ref R), tv, ov, wv] ∧
      H' G = some (.lst (gs.map V.str)) ∧ H' Pt = some (.lst ((gs.map some ++ [none]).map oV)) ∧ H' R = some (.lst (as.map V.ref)) ∧ RowsIn H' as rs ∧ GoodRows gs rs ∧ (∀ r ∈ rs, r.2.2.natAbs ≤ 9) ∧ rs.length ≤ i ∧ PotAt H' p ∧ But p H H') ?_ ?_ ?_
    · refine ⟨[], [], none, none, none, rfl, b8 _ _ hGp (v1 _ _ eG), ?_, b8 _ _ hRp f3, .nil, fun r h => (by cases h), fun r h => (by cases h), Nat.le_refl _, hp8, c3.trans b8⟩
      rw [← pts]
      exact b8 _ _ hPp (u3 _ _ f2)
    · rintro i σ H' hi ⟨as, rs, tv, ov, wv, rfl, kG, kP, kR, rows, good, low, len, pot, but⟩
      have lp : ((gs.map some ++ [none]).map oV).length = gs.length + 1 := by simp
      have l2 := GG.l2
      refine ⟨_, rfl, _, rfl, rfl, rfl, p, Pt, _, rfl, pot, SqL.of kP, hPp, by omega, by omega, fun i1 x1 H1 hx1 hp1 b1 => ?_⟩
      refine ⟨_, rfl, _, rfl, rfl, rfl, p, Pt, _, rfl, hp1, SqL.of (b1 _ _ hPp kP), hPp, by omega, by omega, fun i2 x2 H2 hx2 hp2 b2 => ⟨_, _, rfl, ?_⟩⟩
      obtain ⟨o1, q1, rfl⟩ := get_map hx1
      obtain ⟨o2, q2, rfl⟩ := get_map hx2
      have w1 := pt_in q1
      have w2 := pt_in q2
      have b12 := b1.trans b2
      obtain ⟨z0, z1, hpp0, _⟩ := id pot
      have rows2 : RowsIn H2 as rs := rows_but rows b12 hpp0
      have kG2 := b12 _ _ hGp kG
      have kP2 := b12 _ _ hPp kP
      have kR2 := b12 _ _ hRp kR
      refine ⟨_, rfl, _, rfl, oD o1, oD o2, dp_o _, dp_o _, shaped_o GG _ w1, shaped_o GG _ w2, _, rfl, ?_⟩
      rw [eqv_o]
      refine ite2 (fun c => ?_) (fun c => ?_)
      · have hne : o1 ≠ o2 := by simpa using c
        refine ⟨_, rfl, .inl ⟨rfl, _, SqL.of kR2⟩, _, rfl, _, rfl, _, rfl, _, rfl, _, rfl, _, rfl, rfl, rfl, p, _, rfl, hp2, by decide, by decide, fun d4 H4 e0 e1 hp4 b4 => ?_⟩
        refine ⟨by show 8 ≤ sizeLine; decide, fun L H5 nL eL sL => ⟨rfl, rfl, p, L, _, rfl, pot_same hp4 sL, SqL.of eL, ?_, by show 0 < 8; decide, by show 8 < 1048576; decide, fun i6 x6 H6 hx6 hp6 b6 => ?_⟩⟩
        · obtain ⟨_, _, hq, _⟩ := id hp4
          exact ne_some nL hq
        · have pk : ∃ k : Int, x6 = .int k ∧ k.natAbs ≤ 9 := by
            match i6, hx6 with
            | 0, hx => cases hx; exact ⟨0, rfl, by decide⟩
            | 1, hx => cases hx; exact ⟨1, rfl, by decide⟩
            | 2, hx => cases hx; exact ⟨2, rfl, by decide⟩
            | 3, hx => cases hx; exact ⟨3, rfl, by decide⟩
            | 4, hx => cases hx; exact ⟨5, rfl, by decide⟩
            | 5, hx => cases hx; exact ⟨-1, rfl, by decide⟩
            | 6, hx => cases hx; exact ⟨-2, rfl, by decide⟩
            | 7, hx => cases hx; exact ⟨d4, rfl, by omega⟩
            | i + 8, hx => simp at hx
          obtain ⟨k6, rfl, hk⟩ := pk
          have b46 : But p H2 H6 := (b4.trans (But.of sL)).trans b6
          refine ⟨by show 3 ≤ sizeLine; decide, fun t H7 nt et st => ?_⟩
          have b27 : But p H2 H7 := b46.trans (But.of st)
          obtain ⟨z2, z3, hpp2, _⟩ := id hp2
          have rows7 := rows_but rows2 b27 hpp2
          have kR7 := b27 _ _ hRp kR2
          have tR : t ≠ R := ne_of et kR7 (by intro q; cases q)
          have lenA : as.length = rs.length := Paired.length rows
          refine ⟨R, as.map V.ref, .ref t, rfl, rfl, kR7, by rw [List.length_map]; exact small1000 (by simp at hi; omega), fun H8' e8 c8 => ?_⟩
          have b28 : ∀ a o, a ≠ p → a ≠ R → H2 a = some o → H8' a = some o := fun a o n1 n2 e => c8 _ _ n2 (b27 _ _ n1 e)
          refine ⟨as ++ [t], rs ++ [(o1, o2, k6)], _, _, _, rfl, b28 _ _ hGp hGR kG2, b28 _ _ hPp hPR kP2, by rw [e8]; simp, ?_, ?_, ?_, by simp; omega, ?_, ?_⟩
          · exact Paired.snoc (rows_keep rows7 fun u xs e => c8 _ _ (ne_of e kR7 (by intro q; cases q)) e) (c8 _ _ tR et)
          · intro r hr
            rcases List.mem_append.mp hr with hr | hr
            · exact good r hr
            · rw [List.mem_singleton.mp hr]
              exact ⟨hne, w1, w2, by show k6.natAbs ≤ 100; omega⟩
          · intro r hr
            rcases List.mem_append.mp hr with hr | hr
            · exact low r hr
            · rw [List.mem_singleton.mp hr]
              exact hk
          · obtain ⟨a, b, e, z⟩ := pot_same hp6 st
            exact ⟨a, b, c8 _ _ hRp.symm e, z⟩
          · intro a o ha e
            have z := b27 _ _ ha (b12 _ _ ha (but _ _ ha e))
            exact c8 _ _ (ne_of_none e nR) z
      · exact ⟨as, rs, _, _, _, rfl, kG2, kP2, kR2, rows2, good, low, by omega, hp2, but.trans b12⟩
    · rintro σ H' ⟨as, rs, tv, ov, wv, rfl, kG, kP, kR, rows, good, low, len, pot, but⟩
      refine ⟨_, rfl, _, rfl, by show 2 ≤ sizeLine; decide, fun t H9 n9 e9 s9 => ?_⟩
      obtain ⟨x8, y8, hpp8, _⟩ := id pot
      exact q gs rs G R t as H9 hgs good low (by omega) (back_but but n9 (ne_some n9 hpp8)) nG nR hGR e9 (s9 _ _ kG) (s9 _ _ kR) (rows_same rows s9) (pot_same pot s9) (but.trans (But.of s9))
end
end KM

set_option Elab.async false
set_option linter.all false
namespace KM
open PySem PySem.Spec PyProof.Rows L2 GL
abbrev leS (a b : Str) : Prop := a.cps.toList ≤ b.cps.toList
theorem leS_of {a b : Str} (h : ltCps b.cps.toList a.cps.toList = false) : leS a b := by
  rw [ltCps_eq] at h
  exact List.not_lt.mp (of_decide_eq_false h)
theorem rising_pair : ∀ (p : Str) (l : List Str), risingS p l = true → (p :: l).Pairwise leS
  | p, [], _ => List.pairwise_singleton _ _
  | p, x :: r, h => by
    have h' : (!ltCps x.cps.toList p.cps.toList && risingS x r) = true := h
    rw [Bool.and_eq_true, Bool.not_eq_true'] at h'
    have ih := rising_pair x r h'.2
    have l1 : leS p x := leS_of h'.1
    refine List.pairwise_cons.mpr ⟨fun y hy => ?_, ih⟩
    rcases List.mem_cons.mp hy with e | hy
    · rw [e]; exact l1
    · exact List.le_trans l1 ((List.pairwise_cons.mp ih).1 y hy)
theorem sorted_pair : ∀ l : List Str, sortedS l = true → l.Pairwise leS
  | [], _ => .nil
  | x :: r, h => rising_pair x r h
theorem cps_inj {a b : Str} (h : a.cps.toList = b.cps.toList) : a = b := by
  obtain ⟨x⟩ := a
  obtain ⟨y⟩ := b
  have : x = y := by
    have e := congrArg List.toArray h
    simpa using e
  rw [this]
/-- there is one sorted list of the same texts -/
theorem sorted_one {l m : List Str} (p : l.Perm m) (hl : sortedS l = true) (hm : sortedS m = true) : l = m :=
  List.Perm.eq_of_pairwise (fun a b _ _ h1 h2 => cps_inj (List.le_antisymm h1 h2)) (sorted_pair l hl) (sorted_pair m hm) p
end KM

set_option Elab.async false
set_option linter.all false
set_option maxRecDepth 100000
set_option maxHeartbeats 4000000
namespace KM
open PySem PySem.Spec PyProof.Rows L2 GL

/-! ### Moves as they stand, and what their methods promise -/
/-- the attributes, as __init__ stores them -/
def flds (g c : Addr) : List (Str × V) := putF "_conditions" (.ref c) (putF "_goods" (.ref g) [])
/-- Moves of the sorted goods gs and the conditions rs stand at m -/
def MovesAt (C : Addr) (H : Hp) (m : Addr) (gs : List Str) (rs : List Row) : Prop :=
  ∃ dx g c as, H m = some (.ins C dx (flds g c)) ∧ H g = some (.lst (gs.map V.str)) ∧ H c = some (.lst (as.map V.ref)) ∧ RowsIn H as rs
/-- what is good: goods of the names, sorted; conditions on them; not too many -/
structure Fit (gs : List Str) (rs : List Row) : Prop where
  g : GoodGs gs
  s : sortedS gs = true
  r : GoodRows gs rs
  n : rs.length ≤ 24
theorem MovesAt.same {C : Addr} {H H' : Hp} {m : Addr} {gs : List Str} {rs : List Row} (h : MovesAt C H m gs rs) (s : Same H H') : MovesAt C H' m gs rs := by
  obtain ⟨dx, g, c, as, e1, e2, e3, e4⟩ := h
  exact ⟨dx, g, c, as, s _ _ e1, s _ _ e2, s _ _ e3, rows_same e4 s⟩
theorem MovesAt.but {C : Addr} {H H' : Hp} {m p : Addr} {gs : List Str} {rs : List Row} (h : MovesAt C H m gs rs) (hp : PotAt H p) (b : But p H H') : MovesAt C H' m gs rs := by
  obtain ⟨dx, g, c, as, e1, e2, e3, e4⟩ := h
  obtain ⟨x, y, e, _⟩ := hp
  refine ⟨dx, g, c, as, b _ _ (ne_of e1 e (by intro q; cases q)) e1, b _ _ (ne_of e2 e ?_) e2, b _ _ (ne_of e3 e ?_) e3, rows_but e4 b e⟩
  · intro q
    cases gs with
    | nil => cases q
    | cons a r => cases q
  · intro q
    cases as with
    | nil => cases q
    | cons a r => cases q
theorem MovesAt.ins {C : Addr} {H : Hp} {m : Addr} {gs : List Str} {rs : List Row} (h : MovesAt C H m gs rs) : ∃ dx fs, H m = some (.ins C dx fs) ∧
    ∀ nm : Str, ¬ nm = "_conditions" → ¬ nm = "_goods" → fs.lookup nm = none := by
  obtain ⟨dx, g, c, as, e1, _⟩ := h
  refine ⟨dx, _, e1, fun nm h1 h2 => ?_⟩
  unfold flds
  rw [lookup_putF, if_neg h1, lookup_putF, if_neg h2]
  rfl

/-- new Moves: their lists are new as well -/
def MovesNew (C : Addr) (H H' : Hp) (m : Addr) (gs : List Str) (rs : List Row) : Prop :=
  ∃ dx g c as, H' m = some (.ins C dx (flds g c)) ∧ H' g = some (.lst (gs.map V.str)) ∧ H' c = some (.lst (as.map V.ref)) ∧ RowsIn H' as rs ∧ H g = none ∧ H c = none
theorem MovesNew.at {C : Addr} {H H' : Hp} {m : Addr} {gs : List Str} {rs : List Row} (h : MovesNew C H H' m gs rs) : MovesAt C H' m gs rs := by
  obtain ⟨dx, g, c, as, e1, e2, e3, e4, _⟩ := h
  exact ⟨dx, g, c, as, e1, e2, e3, e4⟩
/-- a list that stood ahead of them is changed -/
theorem MovesNew.put {C : Addr} {H H1 H2 : Hp} {m p : Addr} {zs ys : List V} {gs : List Str} {rs : List Row} (h : MovesNew C H H1 m gs rs) (e : H p = some (.lst zs)) (e' : H1 p = some (.lst ys)) (b : But p H1 H2) :
    MovesNew C H H2 m gs rs := by
  obtain ⟨dx, g, c, as, e1, e2, e3, e4, n1, n2⟩ := h
  exact ⟨dx, g, c, as, b _ _ (ne_of e1 e' (by intro q; cases q)) e1, b _ _ (ne_some n1 e) e2, b _ _ (ne_some n2 e) e3, rows_but e4 b e', n1, n2⟩
/-- Moves whose lists are not E -/
def MovesOff (C E : Addr) (H : Hp) (m : Addr) (gs : List Str) (rs : List Row) : Prop :=
  ∃ dx g c as, H m = some (.ins C dx (flds g c)) ∧ H g = some (.lst (gs.map V.str)) ∧ H c = some (.lst (as.map V.ref)) ∧ RowsIn H as rs ∧ g ≠ E ∧ c ≠ E
theorem MovesOff.at {C E : Addr} {H : Hp} {m : Addr} {gs : List Str} {rs : List Row} (h : MovesOff C E H m gs rs) : MovesAt C H m gs rs := by
  obtain ⟨dx, g, c, as, e1, e2, e3, e4, _⟩ := h
  exact ⟨dx, g, c, as, e1, e2, e3, e4⟩
theorem MovesOff.same {C E : Addr} {H H' : Hp} {m : Addr} {gs : List Str} {rs : List Row} (h : MovesOff C E H m gs rs) (s : Same H H') : MovesOff C E H' m gs rs := by
  obtain ⟨dx, g, c, as, e1, e2, e3, e4, n⟩ := h
  exact ⟨dx, g, c, as, s _ _ e1, s _ _ e2, s _ _ e3, rows_same e4 s, n⟩
theorem MovesOff.but {C E : Addr} {H H' : Hp} {m p : Addr} {gs : List Str} {rs : List Row} (h : MovesOff C E H m gs rs) (hp : PotAt H p) (b : But p H H') : MovesOff C E H' m gs rs := by
  obtain ⟨dx, g, c, as, e1, e2, e3, e4, n⟩ := h
  obtain ⟨x, y, e, _⟩ := hp
  refine ⟨dx, g, c, as, b _ _ (ne_of e1 e (by intro q; cases q)) e1, b _ _ (ne_of e2 e ?_) e2, b _ _ (ne_of e3 e ?_) e3, rows_but e4 b e, n⟩
  · intro q
    cases gs with
    | nil => cases q
    | cons a r => cases q
  · intro q
    cases as with
    | nil => cases q
    | cons a r => cases q
theorem MovesOff.put {C E : Addr} {H H' : Hp} {m : Addr} {zs : List V} {gs : List Str} {rs : List Row} (h : MovesOff C E H m gs rs) (e : H E = some (.lst zs)) (b : But E H H') : MovesOff C E H' m gs rs := by
  obtain ⟨dx, g, c, as, e1, e2, e3, e4, n1, n2⟩ := h
  exact ⟨dx, g, c, as, b _ _ (ne_of e1 e (by intro q; cases q)) e1, b _ _ n1 e2, b _ _ n2 e3, rows_but e4 b e, n1, n2⟩
theorem MovesNew.off {C E : Addr} {H H' : Hp} {m : Addr} {o : HO} {gs : List Str} {rs : List Row} (h : MovesNew C H H' m gs rs) (e : H E = some o) : MovesOff C E H' m gs rs := by
  obtain ⟨dx, g, c, as, e1, e2, e3, e4, n1, n2⟩ := h
  exact ⟨dx, g, c, as, e1, e2, e3, e4, ne_some n1 e, ne_some n2 e⟩
theorem MovesAt.off {C E : Addr} {H : Hp} {m : Addr} {gs : List Str} {rs : List Row} (h : MovesAt C H m gs rs) (n : H E = none) : MovesOff C E H m gs rs := by
  obtain ⟨dx, g, c, as, e1, e2, e3, e4⟩ := h
  exact ⟨dx, g, c, as, e1, e2, e3, e4, (ne_some n e2).symm, (ne_some n e3).symm⟩
def spGoods (C : Addr) : Sp := fun vs H Q _ => ∃ m gs rs, vs = [.ref m] ∧ MovesAt C H m gs rs ∧ NewK H (.lst (gs.map V.str)) Q
def spConds (C : Addr) : Sp := fun vs H Q _ => ∃ m gs rs, vs = [.ref m] ∧ MovesAt C H m gs rs ∧
  ∀ (L : Addr) (as : List Addr) (H' : Hp), H L = none → H' L = some (.lst (as.map V.ref)) → RowsIn H' as rs → Same H H' → Q (.ref L) H'
def spLen (C : Addr) : Sp := fun vs H Q _ => ∃ m gs rs, vs = [.ref m] ∧ MovesAt C H m gs rs ∧ ∀ H', Same H H' → Q (.int rs.length) H'
def reprM (gs : List Str) (rs : List Row) : Str := ("Moves(" : Str) ++ (gsD gs).shown ++ (", " : Str) ++ (rowsD rs).shown ++ (")" : Str)
def spRepr (C : Addr) : Sp := fun vs H Q _ => ∃ m gs rs, vs = [.ref m] ∧ MovesAt C H m gs rs ∧ Fit gs rs ∧ ∀ H', Same H H' → Q (.str (reprM gs rs)) H'
/-- no Moves: a list, a tuple, None, a number, a text -/
def NoMoves (K : PySem.W.Frag) (H : Hp) (y : V) : Prop := (∃ a xs, y = .ref a ∧ (H a = some (.lst xs) ∨ H a = some (.tup xs))) ∨ y = .non ∨ (∃ i, y = .int i) ∨ (∃ z, y = .str z)
def spEq (K : PySem.W.Frag) (C : Addr) : Sp := fun vs H Q _ => ∃ m gs rs y, vs = [.ref m, y] ∧ MovesAt C H m gs rs ∧ Fit gs rs ∧
  ((∃ m2 gs2 rs2, y = .ref m2 ∧ MovesAt C H m2 gs2 rs2 ∧ Fit gs2 rs2 ∧ ∀ H', Same H H' → Q (.bl (decide (gs = gs2 ∧ rs = rs2))) H') ∨
    (NoMoves K H y ∧ ∀ H', Same H H' → Q (.bl false) H'))
def spAdd (C : Addr) : Sp := fun vs H Q _ => ∃ m t gs rs r, vs = [.ref m, .ref t] ∧ MovesAt C H m gs rs ∧ Fit gs rs ∧ RowAt H t r ∧ GoodRow gs r ∧ rs.length < 24 ∧
  ∀ x H', H x = none → Same H H' → MovesNew C H H' x gs (rs ++ [r]) → Q (.ref x) H'
def spWithout (C : Addr) : Sp := fun vs H Q _ => ∃ m gs rs, ∃ i : Nat, vs = [.ref m, .int i] ∧ MovesAt C H m gs rs ∧ Fit gs rs ∧ i < rs.length ∧
  ∀ x H', H x = none → Same H H' → MovesNew C H H' x gs (rs.take i ++ rs.drop (i + 1)) → Q (.ref x) H'
def less1 (r : Row) : Row := (r.1, r.2.1, r.2.2 - 1)
def spTight (C : Addr) : Sp := fun vs H Q _ => ∃ m gs rs r, ∃ i : Nat, vs = [.ref m, .int i] ∧ MovesAt C H m gs rs ∧ Fit gs rs ∧ rs[i]? = some r ∧ r.2.2.natAbs < 100 ∧
  ∀ x H', H x = none → Same H H' → MovesNew C H H' x gs (rs.take i ++ [less1 r] ++ rs.drop (i + 1)) → Q (.ref x) H'
/-- Moves(goods, conditions): the goods in any sequence -/
def spInit (K : PySem.W.Frag) (C : Addr) : Sp := fun vs H Q _ => ∃ x dx G D gs as rs, vs = [.ref x, .ref G, .ref D] ∧ H x = some (.ins C dx []) ∧
  (SqL K H G (gs.map V.str) ∨ SqT K H G (gs.map V.str)) ∧ (SqL K H D (as.map V.ref) ∨ SqT K H D (as.map V.ref)) ∧ RowsIn H as rs ∧ GoodGs gs ∧ GoodRows gs rs ∧ rs.length ≤ 24 ∧
  ∀ hs H', hs.Perm gs → sortedS hs = true → MovesNew C H H' x hs rs → (∀ a o, a ≠ x → H a = some o → H' a = some o) → Q .non H'

/-- what the other texts need of the class -/
structure Mv (P : Program) (w : World) (K : PySem.W.Frag) (mg : Str → Option Value) (base : Heap) (C : Addr) : Prop where
  gM : mg "Moves" = some (.ref C)
  cl : Cls K C
  mk2 : HasC P w K mg base C 6 ["self", "goods", "conditions"] (spInit K C) 2 [] (fun vs _ => vs)
  goods : HasM P w K mg base C "goods" 1 ["self"] (spGoods C)
  conds : HasM P w K mg base C "conditions" 1 ["self"] (spConds C)
  repr : HasM P w K mg base C "__repr__" 1 ["self"] (spRepr C)
  eq : HasM P w K mg base C "__eq__" 1 ["self", "other"] (spEq K C)
  below : Below K C
  eqc : ∃ f N, EqC K C f N ∧ PySem.W.findIn K (.ref C) "__eq__" = some (some (.ref f))
end KM

set_option Elab.async false
set_option linter.all false
set_option maxRecDepth 100000
set_option maxHeartbeats 4000000
namespace KM
open PySem PySem.Spec PyProof.Rows L2 GL
/-! ### == of rows -/
theorem eqv_row (r s : Row) : PyData.eqv (rowD r) (rowD s) = decide (r = s) := by
  obtain ⟨a, b, i⟩ := r
  obtain ⟨c, d, j⟩ := s
  show (PyData.eqv (oD a) (oD c) && (PyData.eqv (oD b) (oD d) && ((i == j) && true))) = _
  rw [eqv_o, eqv_o, Bool.eq_iff_iff]
  simp [and_assoc]
theorem eqv_rowsAll : ∀ rs ss : List Row, PyData.eqvAll (rs.map rowD) (ss.map rowD) = decide (rs = ss)
  | [], [] => rfl
  | [], _ :: _ => rfl
  | _ :: _, [] => rfl
  | r :: rs, s :: ss => by
    show (PyData.eqv (rowD r) (rowD s) && PyData.eqvAll (rs.map rowD) (ss.map rowD)) = _
    rw [eqv_row, eqv_rowsAll rs ss, Bool.eq_iff_iff]
    simp
theorem eqv_rows (rs ss : List Row) : PyData.eqv (rowsD rs) (rowsD ss) = decide (rs = ss) := eqv_rowsAll rs ss
theorem eqv_strsAll : ∀ gs hs : List Str, PyData.eqvAll (gs.map PyData.str) (hs.map PyData.str) = decide (gs = hs)
  | [], [] => rfl
  | [], _ :: _ => rfl
  | _ :: _, [] => rfl
  | r :: rs, s :: ss => by
    show ((r == s) && PyData.eqvAll (rs.map PyData.str) (ss.map PyData.str)) = _
    rw [eqv_strsAll rs ss, Bool.eq_iff_iff]
    simp
theorem eqv_gs (gs hs : List Str) : PyData.eqv (gsD gs) (gsD hs) = decide (gs = hs) := eqv_strsAll gs hs
theorem eqv_blsAll : ∀ l : List Bool, PyData.eqvAll (l.map PyData.bool) (l.map PyData.bool) = true
  | [] => rfl
  | b :: l => by
    show ((b == b) && PyData.eqvAll (l.map PyData.bool) (l.map PyData.bool)) = true
    rw [eqv_blsAll l]
    simp
theorem dp_bls {K : PySem.W.Frag} {H : Hp} : ∀ l : List Bool, DpAll K H (l.map V.bl) (l.map PyData.bool)
  | [] => .nil
  | b :: l => .cons (.bl b) (dp_bls l)
theorem layAll_map {α : Type} (f : α → PyData) : ∀ l : List α, (∀ a ∈ l, (f a).canLay0 = true) → PyData.canLayAll0 (l.map f) = true
  | [], _ => rfl
  | a :: l, h => by
    show ((f a).canLay0 && PyData.canLayAll0 (l.map f)) = true
    rw [h a List.mem_cons_self, layAll_map f l fun b hb => h b (List.mem_cons_of_mem _ hb)]
    rfl
theorem shaped_of {d : PyData} (l : d.canLay0 = true) (h : d.depth ≤ 64) : SeqAt.shaped d = true := by
  show (d.canLay0 && decide (d.depth ≤ 64)) = true
  rw [l, decide_eq_true h]
  rfl
theorem shaped_bls (l : List Bool) : SeqAt.shaped (.list (l.map PyData.bool)) = true :=
  shaped_of (layAll_map PyData.bool l fun b _ => by cases b <;> rfl) (by
    show PyData.depthAll (l.map PyData.bool) + 1 ≤ 64
    have := depthAll_map PyData.bool 0 l fun b _ => Nat.le_refl _
    omega)
theorem lay_row {gs : List Str} (G : GoodGs gs) {r : Row} (h : GoodRow gs r) : (rowD r).canLay0 = true := by
  show ((oD r.1).canLay0 && ((oD r.2.1).canLay0 && ((PyData.int r.2.2).canLay0 && true))) = true
  rw [lay_o G _ h.one, lay_o G _ h.two]
  rfl
theorem shaped_rows {gs : List Str} (G : GoodGs gs) {rs : List Row} (h : GoodRows gs rs) : SeqAt.shaped (rowsD rs) = true :=
  shaped_of (layAll_map rowD rs fun r hr => lay_row G (h r hr)) (by have := (sh_rows G h).low; omega)
theorem shaped_gs {gs : List Str} (G : GoodGs gs) : SeqAt.shaped (gsD gs) = true :=
  shaped_of (layAll_map PyData.str gs fun x hx => lay_name x (G.sub x hx)) (by have := (sh_gs G).low; omega)
/-! ### rows by parts -/
theorem rows_app {H : Hp} : ∀ {as bs : List Addr} {rs ss : List Row}, RowsIn H as rs → RowsIn H bs ss → RowsIn H (as ++ bs) (rs ++ ss)
  | _, _, _, _, .nil, h => h
  | _, _, _, _, .cons a t, h => .cons a (rows_app t h)
theorem rows_take {H : Hp} : ∀ {as : List Addr} {rs : List Row} (n : Nat), RowsIn H as rs → RowsIn H (as.take n) (rs.take n)
  | _, _, 0, _ => by simp only [List.take_zero]; exact .nil
  | _, _, _ + 1, .nil => .nil
  | _, _, n + 1, .cons a t => .cons a (rows_take n t)
theorem rows_drop {H : Hp} : ∀ {as : List Addr} {rs : List Row} (n : Nat), RowsIn H as rs → RowsIn H (as.drop n) (rs.drop n)
  | _, _, 0, h => h
  | _, _, _ + 1, .nil => .nil
  | _, _, n + 1, .cons _ t => rows_drop n t
theorem rows_rev {H : Hp} : ∀ {as : List Addr} {rs : List Row}, RowsIn H as rs → RowsIn H as.reverse rs.reverse
  | _, _, .nil => .nil
  | _, _, .cons a t => by
    rw [List.reverse_cons, List.reverse_cons]
    exact rows_app (rows_rev t) (.cons a .nil)
theorem rows_at {H : Hp} : ∀ {as : List Addr} {rs : List Row} {i : Nat} {x : V}, RowsIn H as rs → (as.map V.ref)[i]? = some x → ∃ t r, x = .ref t ∧ rs[i]? = some r ∧ RowAt H t r
  | _, _, i, x, .nil, e => by simp at e
  | _, _, 0, x, .cons (a := a) (b := b) h _, e => by
    have e' : V.ref a = x := by simpa using e
    exact ⟨a, b, e'.symm, rfl, h⟩
  | _, _, i + 1, x, .cons _ t, e => by
    obtain ⟨u, r, a, b, c⟩ := rows_at (i := i) (x := x) t (by simpa using e)
    exact ⟨u, r, a, by simpa using b, c⟩
end KM

set_option Elab.async false
set_option linter.all false
set_option maxRecDepth 100000
set_option maxHeartbeats 4000000
namespace KM
open PySem PySem.Spec PyProof.Rows L2 GL
section
variable {K : PySem.W.Frag} {C : Addr} {Hc : Hp} {m x : Addr} {gs gs2 : List Str} {rs rs2 : List Row} {Q : VK}
theorem q_eq (hm : MovesAt C Hc m gs rs) (fm : Fit gs rs) (hx : MovesAt C Hc x gs2 rs2) (fx : Fit gs2 rs2) (h : ∀ H', Same Hc H' → Q (.bl (decide (gs = gs2 ∧ rs = rs2))) H') :
    rEqO K C (spEq K C) E0 (.ref m) (.ref x) Hc Q := by
  obtain ⟨dx, fs, em, _⟩ := hm.ins
  obtain ⟨dy, fy, ex, _⟩ := hx.ins
  exact ⟨m, dx, fs, rfl, em, .inl ⟨x, dy, fy, rfl, ex⟩, m, gs, rs, .ref x, rfl, hm, fm, .inl ⟨x, gs2, rs2, rfl, hx, fx, fun H' s => ⟨_, rfl, h H' s⟩⟩⟩
theorem q_ne (hm : MovesAt C Hc m gs rs) (fm : Fit gs rs) (hx : MovesAt C Hc x gs2 rs2) (fx : Fit gs2 rs2) (h : ∀ H', Same Hc H' → Q (.bl (!decide (gs = gs2 ∧ rs = rs2))) H') :
    rNeO C (spEq K C) E0 (.ref m) (.ref x) Hc Q := by
  obtain ⟨dx, fs, em, _⟩ := hm.ins
  obtain ⟨dy, fy, ex, _⟩ := hx.ins
  exact ⟨m, dx, fs, x, dy, fy, rfl, rfl, em, ex, m, gs, rs, .ref x, rfl, hm, fm, .inl ⟨x, gs2, rs2, rfl, hx, fx, fun H' s => ⟨_, rfl, h H' s⟩⟩⟩
theorem q_eq0 {y : V} (hm : MovesAt C Hc m gs rs) (fm : Fit gs rs) (hy : NoMoves K Hc y) (h : ∀ H', Same Hc H' → Q (.bl false) H') : rEqO K C (spEq K C) E0 (.ref m) y Hc Q := by
  obtain ⟨dx, fs, em, _⟩ := hm.ins
  refine ⟨m, dx, fs, rfl, em, ?_, m, gs, rs, y, rfl, hm, fm, .inr ⟨hy, fun H' s => ⟨_, rfl, h H' s⟩⟩⟩
  rcases hy with ⟨a, xs, rfl, e | e⟩ | e | e | e
  · exact .inr (.inl ⟨a, xs, rfl, .inl (SqL.of e)⟩)
  · exact .inr (.inl ⟨a, xs, rfl, .inr (SqT.of e)⟩)
  · exact .inr (.inr (.inl e))
  · exact .inr (.inr (.inr (.inl e)))
  · exact .inr (.inr (.inr (.inr e)))
/-- what stands behind Moves(G, D) -/
theorem q_new {W : Addr → Hp → Prop} {G D : Addr} {as : List Addr} (g : SqL K Hc G (gs.map V.str) ∨ SqT K Hc G (gs.map V.str)) (d : SqL K Hc D (as.map V.ref) ∨ SqT K Hc D (as.map V.ref)) (rw' : RowsIn Hc as rs)
    (G0 : GoodGs gs) (R0 : GoodRows gs rs) (len : rs.length ≤ 24)
    (h : ∀ x hs H', Hc x = none → hs.Perm gs → Fit hs rs → MovesNew C Hc H' x hs rs → Same Hc H' → W x H') :
    ∀ x dx, Hc x = none → Hc dx = none → dx ≠ x → spInit K C [.ref x, .ref G, .ref D] (upd (upd Hc dx (.own x)) x (.ins C dx [])) (fun v H3 => v = .non ∧ W x H3) E0 := by
  intro x dx nx ndx nex
  have k : Same Hc (upd (upd Hc dx (.own x)) x (.ins C dx [])) := fun a o e => by rw [upd_ne (ne_of_none e nx), upd_ne (ne_of_none e ndx)]; exact e
  refine ⟨x, dx, G, D, gs, as, rs, rfl, upd_same, g.imp k.seq (same_tup k), d.imp k.seq (same_tup k), rows_same rw' k, G0, R0, len, fun hs H' p s mn kp => ⟨rfl, ?_⟩⟩
  obtain ⟨dz, a, b, bs, e1, e2, e3, e4, n1, n2⟩ := mn
  refine h x hs H' nx p ⟨G0.perm p, s, fun r hr => (R0 r hr).of_sub fun y hy => (p.mem_iff).mpr hy, len⟩ ⟨dz, a, b, bs, e1, e2, e3, e4, k.free n1, k.free n2⟩ fun a o e => kp _ _ (ne_of_none e nx) (k _ _ e)
end
theorem perm_strs {ys : List V} {l : List Str} (h : ys.Perm (l.map V.str)) : ∃ hs : List Str, hs.Perm l ∧ ys = hs.map V.str := by
  let un : V → Str := fun v => match v with
    | .str x => x
    | _ => ""
  refine ⟨ys.map un, ?_, ?_⟩
  · have z := h.map un
    rw [List.map_map] at z
    have e : (un ∘ V.str) = id := by funext x; rfl
    rw [e, List.map_id] at z
    exact z
  · rw [List.map_map]
    have : ∀ v ∈ ys, (V.str ∘ un) v = v := fun v hv => by
      obtain ⟨x, _, rfl⟩ := List.mem_map.mp (h.mem_iff.mp hv)
      rfl
    exact (List.map_id ys).symm.trans (List.map_congr_left fun v hv => (this v hv).symm)
theorem take_more {α : Type} : ∀ {l : List α} {i : Nat} {x : α}, l[i]? = some x → l.take (i + 1) = l.take i ++ [x]
  | [], i, x, h => by simp at h
  | a :: l, 0, x, h => by
    have e : a = x := by simpa using h
    rw [e]; rfl
  | a :: l, i + 1, x, h => by
    have ih := take_more (l := l) (i := i) (x := x) (by simpa using h)
    simp only [List.take_succ_cons, List.cons_append]
    rw [ih]
theorem atI0 {α : List V} {x : V} : atI (x :: α) 0 = some x := by
  unfold atI ixN
  rw [if_pos (Int.le_refl _), if_pos (by rw [List.length_cons]; omega)]
  rfl
theorem fit_one {gs hs : List Str} {rs ss : List Row} (a : Fit gs rs) (b : Fit hs ss) (p : hs.Perm gs) : hs = gs := sorted_one p b.s a.s
end KM

set_option Elab.async false
set_option linter.all false
set_option maxRecDepth 100000
set_option maxHeartbeats 4000000
namespace KM
open PySem PySem.Spec PyProof.Rows L2 GL
theorem yes_go {σ : L2.St} {H : Hp} {A B : Hp → Prop} (h : A H) : tYes σ H fun b H3 => if b = true then A H3 else B H3 := by
  show (if true = true then A H else B H)
  exact iteT h
theorem dec_sym {α β : Type} [DecidableEq α] [DecidableEq β] (a b : α) (c d : β) : decide (a = b ∧ c = d) = decide (b = a ∧ d = c) :=
  decide_eq_decide.mpr ⟨fun h => ⟨h.1.symm, h.2.symm⟩, fun h => ⟨h.1.symm, h.2.symm⟩⟩
theorem cut_take {xs : List V} {i : Nat} (h : i ≤ xs.length) : cutV xs none (some (i : Int)) = xs.take i := by
  unfold cutV
  have e0 : HT.sIx xs.length 0 none = 0 := rfl
  have e1 : HT.sIx xs.length xs.length (some (i : Int)) = i := by rw [HT.sIx_nat]; omega
  rw [e0, e1]
  simp
theorem cut_drop {xs : List V} {i : Nat} (h : i ≤ xs.length) : cutV xs (some (i : Int)) none = xs.drop i := by
  unfold cutV
  have e0 : HT.sIx xs.length xs.length none = xs.length := rfl
  have e1 : HT.sIx xs.length 0 (some (i : Int)) = i := by rw [HT.sIx_nat]; omega
  rw [e0, e1]
  rw [List.take_of_length_le]
  rw [List.length_drop]
  omega
theorem r_patch {K : PySem.W.Frag} {tt : TE} {σ : L2.St} {ri ai : Nat} {Hc : Hp} {R : Addr} {i : Nat} {as : List Addr} {rs : List Row} {r : Row} {Q : VK} (hR : σ[ri]? = some (some (.ref R))) (hA : σ[ai]? = some (some (.int (i : Nat))))
    (eR : Hc R = some (.lst (as.map V.ref))) (rows : RowsIn Hc as rs) (hi : i < rs.length) (len : rs.length ≤ 1000)
    (ht : ∀ H1 Q', Same Hc H1 → (∀ t H2, Same H1 H2 → RowAt H2 t r → Q' (.ref t) H2) → tt σ H1 Q')
    (h : ∀ L bs H', Hc L = none → H' L = some (.lst (bs.map V.ref)) → RowsIn H' bs (rs.take i ++ [r] ++ rs.drop (i + 1)) → Same Hc H' → Q (.ref L) H') :
    tOp rCatL (tOp rCatL (tSl (rSlcL K) (tVar ri) tNoPart (tPart (tVar ai))) (tLstL (tCons tt tNil)))
      (tSl (rSlcL K) (tVar ri) (tPart (tOp (rI0 fun i j => V.int (i + j)) (tVar ai) (tC (.int 1)))) tNoPart) σ Hc Q := by
  have la : as.length = rs.length := Paired.length rows
  have lm : (as.map V.ref).length = rs.length := by rw [List.length_map, la]
  have sz := sizeLine_eq
  refine ⟨_, hR, _, hA, (i : Int), rfl, R, _, rfl, SqL.of eR, fun A1 H1 n1 e1 s1 => ?_⟩
  rw [cut_take (by omega)] at e1
  refine ht H1 _ s1 fun t H2 s2 et => ⟨by show 1 ≤ sizeLine; decide, fun L1 H3 n3 e3 s3 => ?_⟩
  refine ⟨A1, L1, _, _, rfl, rfl, s3 _ _ (s2 _ _ e1), e3, by rw [List.length_take, lm]; show _ + 1 ≤ sizeLine; omega, fun B1 H4 n4 e4 s4 => ?_⟩
  have S4 : Same Hc H4 := ((s1.trans s2).trans s3).trans s4
  refine ⟨_, hR, _, hA, _, _, rfl, rfl, (i : Int) + 1, rfl, R, _, rfl, SqL.of (S4 _ _ eR), fun A2 H5 n5 e5 s5 => ?_⟩
  have ei : (i : Int) + 1 = ((i + 1 : Nat) : Int) := by omega
  rw [ei, cut_drop (by omega)] at e5
  refine ⟨B1, A2, _, _, rfl, rfl, s5 _ _ e4, e5, by simp only [List.length_append, List.length_take, List.length_drop, lm, List.length_cons, List.length_nil]; omega, fun L H6 n6 e6 s6 => ?_⟩
  have S5 := S4.trans s5
  have S6 := S5.trans s6
  have r6 := rows_same rows S6
  refine h L (as.take i ++ [t] ++ as.drop (i + 1)) H6 (S5.free n6) ?_ ?_ S6
  · rw [e6]
    simp [List.map_take, List.map_drop]
  · exact rows_app (rows_app (rows_take i r6) (.cons (s6 _ _ (s5 _ _ (s4 _ _ (s3 _ _ et)))) .nil)) (rows_drop (i + 1) r6)
theorem r_drop {K : PySem.W.Frag} {σ : L2.St} {ri ai : Nat} {Hc : Hp} {R : Addr} {i : Nat} {as : List Addr} {rs : List Row} {Q : VK} (hR : σ[ri]? = some (some (.ref R))) (hA : σ[ai]? = some (some (.int (i : Nat))))
    (eR : Hc R = some (.lst (as.map V.ref))) (rows : RowsIn Hc as rs) (hi : i < rs.length) (len : rs.length ≤ 1000)
    (h : ∀ L bs H', Hc L = none → H' L = some (.lst (bs.map V.ref)) → RowsIn H' bs (rs.take i ++ rs.drop (i + 1)) → Same Hc H' → Q (.ref L) H') :
    tOp rCatL (tSl (rSlcL K) (tVar ri) tNoPart (tPart (tVar ai)))
      (tSl (rSlcL K) (tVar ri) (tPart (tOp (rI0 fun i j => V.int (i + j)) (tVar ai) (tC (.int 1)))) tNoPart) σ Hc Q := by
  have la : as.length = rs.length := Paired.length rows
  have lm : (as.map V.ref).length = rs.length := by rw [List.length_map, la]
  have sz := sizeLine_eq
  refine ⟨_, hR, _, hA, (i : Int), rfl, R, _, rfl, SqL.of eR, fun A1 H1 n1 e1 s1 => ?_⟩
  rw [cut_take (by omega)] at e1
  refine ⟨_, hR, _, hA, _, _, rfl, rfl, (i : Int) + 1, rfl, R, _, rfl, SqL.of (s1 _ _ eR), fun A2 H5 n5 e5 s5 => ?_⟩
  have ei : (i : Int) + 1 = ((i + 1 : Nat) : Int) := by omega
  rw [ei, cut_drop (by omega)] at e5
  refine ⟨A1, A2, _, _, rfl, rfl, s5 _ _ e1, e5, by simp only [List.length_append, List.length_take, List.length_drop, lm]; omega, fun L H6 n6 e6 s6 => ?_⟩
  have S6 := (s1.trans s5).trans s6
  have r6 := rows_same rows S6
  refine h L (as.take i ++ as.drop (i + 1)) H6 ((s1.trans s5).free n6) ?_ ?_ S6
  · rw [e6]
    simp [List.map_take, List.map_drop]
  · exact rows_app (rows_take i r6) (rows_drop (i + 1) r6)
end KM

set_option Elab.async false
set_option linter.all false
set_option maxRecDepth 100000
set_option maxHeartbeats 2000000
/-! sorted(..) of a tuple of texts; statements that are never reached. -/
namespace GL
open PySem PySem.Spec PyProof.Rows L2
section
variable {prog : Program} {w : World} {A : Around} {E : Value → Shared → Prop} {s : Shared}
theorem sorted_tup {l : Addr} {o : Obj} {vs : List Value} {zs : List Str} {n : Nat} {Q : Value → Shared → Prop} (at_ : s.heap.get? l = some o) (isT : o.cls = .type "tuple") (dat : o.data = .seq vs.toArray n)
    (txts : StrsAre vs zs) (few : vs.length < 64)
    (fin : ∀ (h1 h2 : Heap) (out : List Value) (ys : List Str) (ep : Nat), (∀ b ob, s.heap.get? b = some ob → h1.get? b = some ob) → (∀ b ob, h1.get? b = some ob → h2.get? b = some ob) →
      h2.get? h1.objs.size = some (seqObj "list" out.toArray ep) → StrsAre out ys → ys.Perm zs → sortedS ys = true → Q (.ref h1.objs.size) { s with heap := h2 }) :
    wpAny (model prog w) A (call (.builtin "sorted") [.ref l]) Q E s := by
  have small : vs.length ≤ sizeLine := Nat.le_trans (Nat.le_of_lt few) (by decide)
  refine Calls.call_function_entry kind_sorted plain_sorted entry_sorted (args_sorted1 _) ?_
  unfold Builtin.«sorted»
  refine wpAny_bind (m := checkCount "sorted" 1 1 _) (wpAny_pure (wpAny_bind (wpAny_collect_seq l (.inr rfl) at_ isT dat (fun h1 kp => ?_) (by simpa using small))))
  have ev : vs.toArray.toList = vs := by simp
  rw [ev]
  refine wpAny_bind (wpAny_newList ?_ small)
  have new : (h1.push (seqObj "list" vs.toArray 0)).get? h1.objs.size = some (seqObj "list" vs.toArray 0) := Heap.get?_push_size _ rfl
  refine wpAny_bind (wpAny_holding (wpAny_call_entry slot_list_sort ⟨_, new, rfl⟩ entry_list_sort (list_sort_treeK (s := { s with heap := h1.push (seqObj "list" vs.toArray 0) }) strKind_oneLt new txts.keysOf (fun a b rest e => keyKind_strs (by rw [← e]; exact txts)) few fun st hp hs => ⟨_, rfl, ?_⟩) (args_list_sort _)))
  obtain ⟨ys, g1, g2, g3⟩ := sorted_out_str txts hp hs
  obtain ⟨ep, at2⟩ := sortedHeap_at (vs := vs) (out := (arrOf st).map (·.2)) new
  refine wpAny_pure ⟨_, rfl, fin h1 _ ((arrOf st).map (·.2)).toList ys ep kp (fun b ob e => ?_) (by rw [Array.toArray_toList]; exact at2) g1 g2 g3⟩
  have lt := Heap.lt_size e
  show (sortedHeap (h1.push (seqObj "list" vs.toArray 0)) h1.objs.size vs _).get? b = some ob
  rw [sortedHeap_old (Nat.ne_of_lt lt) (Nat.lt_of_lt_of_le lt (by rw [size_push']; exact Nat.le_succ _))]
  exact Heap.get?_push_of_some _ e
end
section
variable {X : Cx}
/-- sorted(xs) of a list or a tuple of texts -/
def rSortLT (K : PySem.W.Frag) : List V → Hp → VK → Prop := fun vs H Q => ∃ (a : Addr) (xs : List Str), vs = [V.ref a] ∧ (SqL K H a (xs.map V.str) ∨ SqT K H a (xs.map V.str)) ∧ xs.length < 64 ∧
  ∀ ys : List Str, ys.Perm xs → sortedS ys = true → NewK H (.lst (ys.map V.str)) Q
theorem call_sortLT : CallR X (.builtin "sorted") (rSortLT X.K) := by
  intro pins s σ H xs us Q I r h
  obtain ⟨a, zs, rfl, o, few, q⟩ := h
  rcases o with o | o
  · exact call_sortL pins s σ H _ us Q I r ⟨a, zs, rfl, o, few, q⟩
  · obtain ⟨its, rv, ⟨ob, e1, e2, n, e3⟩, _⟩ := I.tuple o
    rw [Vals.ref1 r]
    have len := rv.length
    rw [List.length_map] at len
    refine sorted_tup e1 e2 e3 rv.strs (by rw [← len]; exact few) fun h1 h2 out ys ep kp kp2 at2 g1 g2 g3 => ?_
    have hlen : (ys.map V.str).length ≤ sizeLine := by rw [List.length_map, g2.length_eq]; exact Nat.le_trans (Nat.le_of_lt few) (by decide)
    have I1 : Inv X pins σ H { s with heap := h1 } := I.kept (t' := s.toks) kp
    exact ⟨.ref h1.objs.size, upd H h1.objs.size (.lst (ys.map V.str)), I1.laid (t' := s.toks) kp2 (Nat.le_refl _) ⟨hlen, out, ep, vals_of_strs g1, at2⟩, rfl, (q ys g2 g3).go _ (I1.hok.fresh (Nat.le_refl _))⟩
end
end GL

set_option Elab.async false
set_option linter.all false
set_option maxRecDepth 100000
set_option maxHeartbeats 4000000
namespace KM
open PySem PySem.Spec PyProof.Rows L2 GL
/-! the plain kinds of values, as far as right ones go -/
abbrev sInt : Stmt := top 20
abbrev sCnt : Stmt := top 21
abbrev sNm : Stmt := top 22
abbrev sGd : Stmt := top 23
abbrev sLs : Stmt := top 24
abbrev sTr : Stmt := top 27
def abc : Str := "abcdefghijklmnopqrstuvwxyz"
def kept : List Str := ["coin", "hall", "outside"]
/-- the file's constants -/
structure Wd (K : PySem.W.Frag) (mg : Str → Option Value) : Prop where
  letters : ∃ t, mg "LETTERS" = some (.str abc t)
  most : ∃ t, mg "MOST_LETTERS" = some (.int 8 t)
  no : ∃ a, mg "NO_GOODS" = some (.ref a) ∧ SqT K (fun _ => none) a (kept.map V.str)
def spInt : Sp := fun vs H Q _ => ∃ i : Int, vs = [.int i] ∧ ∀ H', Same H H' → Q (.bl true) H'
def spCnt : Sp := fun vs H Q _ => ∃ i : Int, vs = [.int i] ∧ 0 ≤ i ∧ ∀ H', Same H H' → Q (.bl true) H'
def spNm : Sp := fun vs H Q _ => ∃ x : Str, vs = [.str x] ∧ x ∈ names ∧ ∀ H', Same H H' → Q (.bl true) H'
def spLs (K : PySem.W.Frag) : Sp := fun vs H Q _ => ∃ a xs, vs = [.ref a] ∧ (SqL K H a xs ∨ SqT K H a xs) ∧ ∀ H', Same H H' → Q (.bl true) H'
def spTr : Sp := fun vs H Q _ => ∃ a x y z, vs = [.ref a] ∧ H a = some (.tup [x, y, z]) ∧ ∀ H', Same H H' → Q (.bl true) H'
theorem sqt_at {K : PySem.W.Frag} {T : Addr} {xs : List V} (h : SqT K (fun _ => none) T xs) (H : Hp) : SqT K H T xs := by
  rcases h with (h | ⟨o, h⟩) | h
  · cases h
  · cases h
  · exact .inr h
/-- whether it is a list, a tuple: the type, for isinstance -/
theorem ty_seq {K : PySem.W.Frag} {H : Hp} {a : Addr} {xs : List V} (h : SqL K H a xs ∨ SqT K H a xs) : TyX K H (.ref a) (.type "list") ∨ TyX K H (.ref a) (.type "tuple") := by
  rcases h with ((h | ⟨o, h⟩) | ⟨o, its, n, e, c, _⟩) | ((h | ⟨o, h⟩) | ⟨o, its, n, e, c, _⟩)
  · exact .inl (.base (.lst h))
  · exact .inl (.base (.frz h))
  · exact .inl (.kList e c)
  · exact .inr (.base (.tup h))
  · exact .inr (.fTuple h)
  · exact .inr (.kTuple e c)
section
variable {P : Program} {w : World} {K : PySem.W.Frag} {mg : Str → Option Value} {base : Heap}
abbrev nNm : List Str := ["value", "sign"]
theorem scInt : FnScope ["value"] ["value"] (defScope sInt) := ⟨rfl, rfl, rfl, by decide +kernel, rfl, by decide +kernel, by decide +kernel⟩
theorem scCnt : FnScope ["value"] ["value"] (defScope sCnt) := ⟨rfl, rfl, rfl, by decide +kernel, rfl, by decide +kernel, by decide +kernel⟩
theorem scNm : FnScope nNm ["value"] (defScope sNm) := ⟨rfl, rfl, rfl, by decide +kernel, rfl, by decide +kernel, by decide +kernel⟩
theorem scGd : FnScope ["value"] ["value"] (defScope sGd) := ⟨rfl, rfl, rfl, by decide +kernel, rfl, by decide +kernel, by decide +kernel⟩
theorem scLs : FnScope ["value"] ["value"] (defScope sLs) := ⟨rfl, rfl, rfl, by decide +kernel, rfl, by decide +kernel, by decide +kernel⟩
theorem scTr : FnScope ["value"] ["value"] (defScope sTr) := ⟨rfl, rfl, rfl, by decide +kernel, rfl, by decide +kernel, by decide +kernel⟩
theorem ok_int {f : Addr} {fd : FuncData} (F : Fun K "is_integer" "is_integer" sInt f fd) (T : Bi mg) : FnG P w K mg base CX0 1 f fd ["value"] spInt := by
  refine okG F scInt (fun vs H Q E h => ?_) (fun cdv A out s H vs Q E g hr h => ?_)
  · obtain ⟨i, rfl, _⟩ := h
    rfl
  · obtain ⟨i, rfl, q⟩ := h
    refine ⟨_, (pss_one (ps_ret (pe_and (pe_callB call_isi (by rfl) T.isinstance (by decide +kernel) (pa_cons (pv 0) (pa_cons (pe_bltn (v := .ty "int") (u := .type "int") (by rfl) T.int (by decide +kernel) rfl) pa_nil))) (pe_one (pe_not (pe_callB call_isi (by rfl) T.isinstance (by decide +kernel) (pa_cons (pv 0) (pa_cons (pe_bltn (v := .ty "bool") (u := .type "bool") (by rfl) T.bool (by decide +kernel) rfl) pa_nil)))))))), ?_⟩
    refine ⟨_, rfl, .int i, .ty "int", .type "int", .type "int", true, rfl, .ty "int", .base (.int i), kit_ty (by decide +kernel), true, rfl, ?_⟩
    exact ⟨_, rfl, .int i, .ty "bool", .type "int", .type "bool", false, rfl, .ty "bool", .base (.int i), kit_ty (by decide +kernel), false, rfl, q _ (Same.refl' _)⟩
theorem ok_cnt {f : Addr} {fd : FuncData} (F : Fun K "is_count" "is_count" sCnt f fd) (I : Has P w K mg base "is_integer" 1 ["value"] spInt) : FnG P w K mg base CX0 2 f fd ["value"] spCnt := by
  refine okG F scCnt (fun vs H Q E h => ?_) (fun cdv A out s H vs Q E g hr h => ?_)
  · obtain ⟨i, rfl, _⟩ := h
    rfl
  · obtain ⟨i, rfl, hi, q⟩ := h
    refine ⟨_, (pss_one (ps_ret (pe_and (pe_has I g hr (by rfl) (pa_cons (pv 0) pa_nil)) (pe_one (pe_cmpR op_ge (pv 0) pe_int (nomark _)))))), ?_⟩
    refine ⟨_, rfl, rfl, rfl, i, rfl, fun H' s' => ⟨true, rfl, _, rfl, _, _, rfl, rfl, ?_⟩⟩
    show Q (V.bl (decide ((0 : Int) ≤ i))) H'
    rw [decide_eq_true hi]
    exact q H' s'
theorem ok_name {f : Addr} {fd : FuncData} (F : Fun K "is_name" "is_name" sNm f fd) (T : Bi mg) (W : Wd K mg) : FnG P w K mg base CX0 1 f fd ["value"] spNm := by
  obtain ⟨tL, hL⟩ := W.letters
  obtain ⟨t8, h8⟩ := W.most
  refine okG F scNm (fun vs H Q E h => ?_) (fun cdv A out s H vs Q E g hr h => ?_)
  · obtain ⟨x, rfl, _⟩ := h
    rfl
  · obtain ⟨x, rfl, hx, q⟩ := h
    have fact : ∀ x ∈ names, 1 ≤ x.length ∧ x.length ≤ 8 ∧ ∀ c ∈ x.cps.toList, c ∈ abc.cps.toList := by decide +kernel
    obtain ⟨l1, l8, low⟩ := fact x hx
    have sz := sizeLine_eq
    refine ⟨_, (pss_cons (ps_if (PW.pt (pw_or (pt_not (pt_val (pe_callB call_isi (by rfl) T.isinstance (by decide +kernel) (pa_cons (pv 0) (pa_cons (pe_bltn (v := .ty "str") (u := .type "str") (by rfl) T.str (by decide +kernel) rfl) pa_nil))))) (pw_or1 (pt_not (pt_chain op_le op_le pe_int (pe_callB call_len_str (by rfl) T.len PySem.boot_len (pa_cons (pv 0) pa_nil)) (pe_glob (v := .int 8) (by rfl) h8 ⟨_, rfl⟩)))))) (pss_one (ps_ret pe_bl)) pss_nil)
      (pss_one (ps_ret (pe_callB (cr_all (by rfl)) (by rfl) T.all (by decide +kernel) (pa_cons (pe_lc (own := [("sign", 1)]) (g := gName 1) (by rfl) scNm.nd (pi_str (pv 0)) (blkOk_by (own := [("sign", 1)]) (N := nNm) (sc := defScope sNm) (by decide +kernel)) (fun _ _ _ _ _ => pg_name (i := 1) scNm.nd rfl (.inl rfl)) (fun _ _ _ _ _ => pts_nil) (fun _ _ _ _ _ => by exact (pe_cmpR op_in_sign (pv 1) (pe_glob (v := .str abc) (by rfl) hL ⟨_, rfl⟩) rfl))) pa_nil))))), ?_⟩
    refine ⟨_, rfl, .str x, .ty "str", .type "str", .type "str", true, rfl, .ty "str", .base (.str x), kit_ty (by decide +kernel), _, rfl, ?_⟩
    refine iteF ?_
    refine ⟨_, rfl, x, rfl, by omega, _, _, rfl, rfl, true, congrArg V.bl (decide_eq_true (by omega)), ?_⟩
    refine ⟨_, _, rfl, rfl, true, congrArg V.bl (decide_eq_true (by omega)), ?_⟩
    refine iteF ?_
    refine ⟨_, rfl, x, rfl, fun D5 nD5 => lc_it walk_str (fun i H' => Same H H' ∧ H' D5 = some (.lst ((List.replicate i true).map V.bl))) ⟨same_new (Same.refl' _) nD5, upd_same⟩ (fun _ _ _ _ => True.intro) ?_ ?_⟩
    · rintro i xv H' H2 hi ⟨sd, eD5⟩ ⟨rfl, c, hc, rfl⟩
      refine ⟨rfl, yes_go ?_⟩
      have mem : c ∈ x.cps.toList := by
        rw [Array.mem_toList_iff]
        exact Array.mem_of_getElem? hc
      refine ⟨_, rfl, c, abc, rfl, rfl, ?_⟩
      have hsz : x.cps.size = x.length := rfl
      refine ⟨_, eD5, by rw [List.length_map, List.length_replicate]; exact small1000 (by omega), ?_, ?_⟩
      · intro b o e
        rw [upd_ne (ne_of_none e nD5)]
        exact sd _ _ e
      · rw [upd_same, List.replicate_succ', List.map_append, decide_eq_true (low c mem)]
        rfl
    · rintro H25 ⟨S25, eD5⟩
      refine ⟨D5, List.replicate x.cps.size true, rfl, SqL.of eD5, ?_⟩
      have z : (List.replicate x.cps.size true).all id = true := by simp
      show Q (V.bl ((List.replicate x.cps.size true).all id)) H25
      rw [z]
      exact q H25 S25
theorem ok_good {f : Addr} {fd : FuncData} (F : Fun K "is_good" "is_good" sGd f fd) (W : Wd K mg) (I : Has P w K mg base "is_name" 1 ["value"] spNm) : FnG P w K mg base CX0 2 f fd ["value"] spNm := by
  obtain ⟨tN, hN, sN⟩ := W.no
  refine okG F scGd (fun vs H Q E h => ?_) (fun cdv A out s H vs Q E g hr h => ?_)
  · obtain ⟨x, rfl, _⟩ := h
    rfl
  · obtain ⟨x, rfl, hx, q⟩ := h
    have fact : ∀ x ∈ names, (!inV (.str x) (kept.map V.str)) = true := by decide +kernel
    refine ⟨_, (pss_one (ps_ret (pe_and (pe_has I g hr (by rfl) (pa_cons (pv 0) pa_nil)) (pe_one (pe_cmpR op_notIn_seq (pv 0) (pe_glob (v := .ref tN) (by rfl) hN rfl) rfl))))), ?_⟩
    refine ⟨_, rfl, rfl, rfl, x, rfl, hx, fun H' s' => ⟨true, rfl, ?_⟩⟩
    refine ⟨_, rfl, tN, _, rfl, .inr (sqt_at sN _), rfl, by decide +kernel, ?_⟩
    show Q (V.bl (!inV (.str x) (kept.map V.str))) H'
    rw [fact x hx]
    exact q H' s'
theorem ok_list {f : Addr} {fd : FuncData} (F : Fun K "is_list" "is_list" sLs f fd) (T : Bi mg) : FnG P w K mg base CX0 1 f fd ["value"] (spLs K) := by
  refine okG F scLs (fun vs H Q E h => ?_) (fun cdv A out s H vs Q E g hr h => ?_)
  · obtain ⟨a, xs, rfl, _⟩ := h
    rfl
  · obtain ⟨a, xs, rfl, hq, q⟩ := h
    refine ⟨_, (pss_one (ps_ret (pe_callB call_isiT (by rfl) T.isinstance (by decide +kernel) (pa_cons (pv 0) (pa_cons (pe_tupL (pa_cons (pe_bltn (v := .ty "list") (u := .type "list") (by rfl) T.list (by decide +kernel) rfl) (pa_cons (pe_bltn (v := .ty "tuple") (u := .type "tuple") (by rfl) T.tuple (by decide +kernel) rfl) pa_nil))) pa_nil))))), ?_⟩
    refine ⟨_, rfl, by show 2 ≤ sizeLine; decide, fun tp H1 n1 e1 s1 => ?_⟩
    have hq1 : SqL K H1 a xs ∨ SqT K H1 a xs := hq.imp s1.seq (same_tup s1)
    rcases ty_seq hq1 with t | t
    · exact ⟨.ref a, tp, _, .type "list", [.type "list", .type "tuple"], true, rfl, e1, .cons (.ty "list") (.cons (.ty "tuple") .nil), t, kitAny_cons (b := true) (kit_ty (by decide +kernel)) (fun z => by cases z) (fun _ => rfl), q _ s1⟩
    · exact ⟨.ref a, tp, _, .type "tuple", [.type "list", .type "tuple"], true, rfl, e1, .cons (.ty "list") (.cons (.ty "tuple") .nil), t, kitAny_cons (b := false) (kit_ty (by decide +kernel)) (fun _ => kitAny_cons (b := true) (kit_ty (by decide +kernel)) (fun z => by cases z) (fun _ => rfl)) (fun z => by cases z), q _ s1⟩
theorem ok_triple {f : Addr} {fd : FuncData} (F : Fun K "is_triple" "is_triple" sTr f fd) (T : Bi mg) : FnG P w K mg base CX0 1 f fd ["value"] spTr := by
  refine okG F scTr (fun vs H Q E h => ?_) (fun cdv A out s H vs Q E g hr h => ?_)
  · obtain ⟨a, x, y, z, rfl, _⟩ := h
    rfl
  · obtain ⟨a, x, y, z, rfl, ha, q⟩ := h
    refine ⟨_, (pss_one (ps_ret (pe_and (pe_callB call_isi (by rfl) T.isinstance (by decide +kernel) (pa_cons (pv 0) (pa_cons (pe_bltn (v := .ty "tuple") (u := .type "tuple") (by rfl) T.tuple (by decide +kernel) rfl) pa_nil))) (pe_one (pe_cmpR op_eq (pe_callB call_len_seq (by rfl) T.len PySem.boot_len (pa_cons (pv 0) pa_nil)) pe_int (nomark _)))))), ?_⟩
    refine ⟨_, rfl, .ref a, .ty "tuple", .type "tuple", .type "tuple", true, rfl, .ty "tuple", .base (.tup ha), kit_ty (by decide +kernel), true, rfl, ?_⟩
    refine ⟨_, rfl, a, _, rfl, .inr (SqT.of ha), rfl, ?_⟩
    show Q (V.bl (decide (V.int 3 = V.int 3))) H
    rw [decide_eq_true rfl]
    exact q H (Same.refl' _)
end
end KM

set_option Elab.async false
set_option linter.all false
set_option maxRecDepth 100000
set_option maxHeartbeats 2000000
/-! enumerate(..) of a tuple, and of a list or a tuple. -/
namespace GL
open PySem PySem.Spec PyProof.Rows L2
set_option maxHeartbeats 4000000 in
theorem meets_enum_one {it : Value} {ob : Obj} {Hv : Heap → Prop} (B : Begins it ob Hv) :
    Meets (Builtin.«enumerate.__new__» ⟨[.type "enumerate", it], []⟩) (fun _ Rz z => Hv z.heap ∧ Rz (.ok (.ret (.ref (z.heap.push ob).objs.size)))
      { z with heap := (z.heap.push ob).push { cls := .type "enumerate", data := .fields #[.none, .bool false, .ref z.heap.objs.size, rawInt 0, .none, .none] } }) :=
  .of_wp fun prog w A Rz z hz => by
    obtain ⟨hp, gs, ds, tk, os⟩ := z
    obtain ⟨g1, gz⟩ := hz
    have hsub := sub_enumerate
    have step : ∀ {A2 : Around} {E2 : Value → Shared → Prop} {Q2 : Value → Shared → Prop}, Q2 (.ref hp.objs.size) ⟨hp.push ob, gs, ds, tk, os⟩ → wpAny (model prog w) A2 (pyIter it) Q2 E2 ⟨hp, gs, ds, tk, os⟩ :=
      fun y => B.iter prog w _ _ ⟨hp, gs, ds, tk, os⟩ _ g1 y
    wp_walk using step
    refine wpAny_stack_any fun _ => wpAny_pure ?_
    split
    · rename_i cz _ _ _ _ _
      cases (cz == Value.type "enumerate") <;> (wp_walk using step; exact ⟨_, rfl, gz⟩)
    · wp_walk using step
      exact ⟨_, rfl, gz⟩
section
variable {prog : Program} {w : World} {A : Around} {E : Value → Shared → Prop} {s : Shared}
/-- enumerate(it): its two new cells -/
theorem call_enum_one {it : Value} {ob : Obj} {Hv : Heap → Prop} {Q : Value → Shared → Prop} (B : Begins it ob Hv) (g1 : Hv s.heap)
    (fin : ∀ h2, IsEnum h2 (s.heap.objs.size + 1) s.heap.objs.size 0 .none → h2.get? s.heap.objs.size = some ob → (∀ b u, s.heap.get? b = some u → h2.get? b = some u) → Q (.ref (s.heap.objs.size + 1)) { s with heap := h2 }) :
    wpAny (model prog w) A (call (.type "enumerate") [it]) Q E s := by
  refine callType_new F.called_enumerate (by decide) (F.typeCall_enumerate_1 _) (F.newCall_enumerate_1 _) (fun z => F.args_object_init_2 z _) F.entry_enumerate_new (meets_enum_one B) ⟨g1, ?_⟩
  have sz1 : (s.heap.push ob).objs.size = s.heap.objs.size + 1 := Heap.size_push ..
  show _ ∧ _
  rw [sz1]
  let ez : Obj := { cls := .type "enumerate", data := .fields #[.none, .bool false, .ref s.heap.objs.size, rawInt 0, .none, .none] }
  have en : IsEnum ((s.heap.push ob).push ez) (s.heap.objs.size + 1) s.heap.objs.size 0 .none := by
    have z := Heap.get?_push_size (s.heap.push ob) (o := ez) rfl
    rw [sz1] at z
    exact z
  exact ⟨⟨_, en, rfl⟩, fin _ en (Heap.get?_push_of_some _ (Heap.get?_push_size _ B.free)) fun b u y => Heap.get?_push_of_some _ (Heap.get?_push_of_some _ y)⟩
end
/-- the tuple at a, each item in a new pair -/
def ItT (K : PySem.W.Frag) (a : Addr) : It where
  go := fun i H => ∃ (xs : List V) (x : V), SqT K H a xs ∧ xs[i]? = some x
  yld := fun i H v H' => ∃ T x, v = .ref T ∧ H T = none ∧ H' = upd H T (.tup [.int (i : Nat), x]) ∧ ∀ xs, SqT K H a xs → xs[i]? = some x
  stop := fun i H => ∃ xs : List V, SqT K H a xs ∧ xs.length ≤ i
theorem turn_enumT {P : Program} {w : World} {K : PySem.W.Frag} {elts : List Expr} {kk : Nat} {tpos : Pos} (a e it : Addr) :
    Turn P w K (.Tuple elts kk tpos) (ItT K a) [e, it] e (fun i h => (∃ old, IsEnum h e it ((i : Nat) : Int) old) ∧ h.IsTupleIter it a i ∧ e ≠ it) where
  mem := List.mem_cons_self
  obj := by
    rintro i h ⟨⟨old, en⟩, ⟨o, ho, hc, hd⟩, _⟩ b hb
    rcases List.mem_cons.mp hb with z | z
    · subst z
      exact ⟨_, en, fun v q => nomatch q⟩
    · exact ⟨o, (List.mem_singleton.mp z) ▸ ho, fun v q => by rw [hd] at q; cases q⟩
  keep := fun i h h' ⟨⟨old, en⟩, tt, ne⟩ k => ⟨⟨old, k e (by simp) _ en⟩, tt.at fun o q => k it (by simp) o q, ne⟩
  item := by
    intro X hP hw hK hc i pins s σ H E I hf st hg
    subst hP hw hK
    obtain ⟨⟨old, en⟩, tt, ne⟩ := st
    obtain ⟨xs, x, hq, hx⟩ := hg
    obtain ⟨its, rv, p, _⟩ := I.tuple hq
    obtain ⟨u, hu, ru⟩ := rv.get hx
    have le := Heap.lt_size en
    obtain ⟨oi, e1, e2, _⟩ := id tt
    obtain ⟨op, f1, f2, n, f3⟩ := id p
    have li := Heap.lt_size e1
    have ai : a ≠ it := fun z => by
      rw [z, e1] at f1
      cases f1
      rw [e2] at f2
      exact absurd f2 (by decide)
    have ea : e ∉ [it, a] := fun z => by
      rcases List.mem_cons.mp z with z | z
      · exact ne z
      · have z := List.mem_singleton.mp z
        have q : s.heap.get? a = _ := z ▸ en
        rw [q] at f1
        cases f1
        exact absurd (show Value.type "enumerate" = Value.type "tuple" from f2) (by decide)
    have D := Draws.tuple (prog := X.prog) (w := X.w) (A := X.A.in1) (I.ok.hd hc) it a ai its.toArray
    have hi : i < its.toArray.size := by
      have := (List.getElem?_eq_some_iff.mp hu).1
      simpa using this
    refine wpAny_pyNext_enum_itemD D en ⟨tt, op, f1, f2, n, f3⟩ hi ne ea fun y h' tk hy ho hs hT hsz hk => ?_
    have hy' : u = y := by
      have z : its[i]? = some y := by simpa using hy
      rw [hu] at z
      exact Option.some.inj z
    subst hy'
    refine ⟨_, rfl, wpAny_letOwnedTupleGo_enum (s := { s with heap := h', toks := tk + 1 }) ho fun h'' he' sb => ?_⟩
    have hT2 : h''.get? s.heap.objs.size = some { cls := .type "tuple", data := .seq #[.int i tk, u] } := (sb.2 _ (Nat.ne_of_gt le)).trans hT
    have new : ObjOk X.prog X.w (upd H s.heap.objs.size (.tup [.int (i : Nat), x])) h'' s.heap.objs.size (.tup [.int (i : Nat), x]) :=
      ⟨by show 2 ≤ sizeLine; decide, [.int i tk, u], .cons ⟨_, rfl⟩ (.cons ru .nil), ⟨_, hT2, rfl, _, rfl⟩⟩
    have I1 : Inv X pins σ (upd H s.heap.objs.size (.tup [.int (i : Nat), x])) { s with heap := h'', toks := tk + 1 } :=
      I.turnedNew (ch := [e, it]) (fun b ob hb q => (sb.2 b fun z => hb (by simp [z])).trans (hk b ob (fun z => hb (by simp [z])) (fun z => hb (by simp [z])) q)) hf (Nat.le_refl _) new
    refine ⟨.ref s.heap.objs.size, _, I1, rfl, ⟨_, x, rfl, I.hok.fresh (Nat.le_refl _), rfl, fun ys hz => by rw [I.tuple_inj hz hq]; exact hx⟩, ⟨⟨u, ?_⟩, hs.1.at fun o q => (sb.2 it ne.symm).trans q, ne⟩, fun b hb => ?_⟩
    · have k1 : ((i + 1 : Nat) : Int) = (i : Int) + 1 := by omega
      rw [k1]
      exact he'
    · have lt : b < s.heap.objs.size := by
        rcases List.mem_cons.mp hb with z | z
        · exact z ▸ le
        · exact (List.mem_singleton.mp z) ▸ li
      rw [upd_ne (Nat.ne_of_lt lt)]
      exact (hf b hb).1
  done := by
    intro X hP hw hK hc i pins s σ H E I hf st hg
    subst hP hw hK
    obtain ⟨⟨old, en⟩, tt, ne⟩ := st
    obtain ⟨xs, hq, hx⟩ := hg
    obtain ⟨its, rv, p, _⟩ := I.tuple hq
    obtain ⟨oi, e1, e2, _⟩ := id tt
    obtain ⟨op, f1, f2, n, f3⟩ := id p
    have ai : a ≠ it := fun z => by
      rw [z, e1] at f1
      cases f1
      rw [e2] at f2
      exact absurd f2 (by decide)
    obtain ⟨f0, f1', f2', f3', f4, f5⟩ := hf it (by simp)
    have hT : s.TypeIs (.ref e) "enumerate" := ⟨_, en, rfl⟩
    unfold pyNext
    refine wpAny_bind (wpAny_attempt (wpAny_callSpecial?_slot (name := Str.ofString "__next__") hT F.slot_enumerate_next (wpAny_call_entry F.slot_enumerate_next hT F.entry_enumerate_next ?_ (F.args_enumerate_next_1 _))))
    show wpAny _ _ (field (.ref e) 2 >>= _) _ _ _
    refine wpAny_bind (wpAny_field en rfl (x := .ref it) rfl (wpAny_bind (wpAny_nextOf_tuple_end (I.ok.hd hc) tt p (Array.getElem?_eq_none (by have := rv.length; simp; omega)) fun h' x eb hx' => ?_)))
    obtain ⟨ox, hox, hcx⟩ := hx'
    exact wpAny_bind (wpAny_isInstance (T := "StopIteration") (b := true) ⟨ox, hox, hcx⟩ isSubtype_stop (wpAny_pure ⟨rfl, I.turned (t' := s.toks) (fun b o hb q => eb b o hb q) f0 f1' f3' f4 f5⟩))
  self := fun A i s Q E ⟨⟨_, en⟩, _⟩ h => wpAny_pyIter_enum en h
/-- enumerate(xs) of a list or a tuple -/
def iEnumA (K : PySem.W.Frag) (ta : TA) : TI := fun σ H R => ta σ H fun vs H1 => ∃ a xs, vs = [.ref a] ∧ ((SqL K H1 a xs ∧ R (Ite K a) H1) ∨ (SqT K H1 a xs ∧ R (ItT K a) H1))
theorem pi_enumA {X : Cx} {e : Expr} {ta : TA} {p pos tpos : Pos} {elts : List Expr} {kk : Nat} (hg : Gl X "enumerate") (hm : X.mg "enumerate" = none) (ha : PA X [e] ta)
    (hs : starEach [e] X.env = [(false, eval e X.env)] := by rfl) : PI X (.Tuple elts kk tpos) (.Call (.Name "enumerate" p) [e] [] pos) (iEnumA X.K ta) := by
  constructor
  intro pins s σ H R I h
  refine Call_ (ld_blt I hg hm boot_enumerate (PyProof.Rows.callWith_type1 (thn (ha.run pos pins s σ H _ I h) ?_) hs rfl))
  rintro us s1 ⟨vs, H1, I1, r1, a, xs, rfl, hq⟩
  obtain rfl := Vals.ref1 r1
  have lay : ∀ b : Addr, b = s1.heap.objs.size + 1 ∨ b = s1.heap.objs.size → FpOk X pins H1 b := fun b z => by
    have le : s1.heap.objs.size ≤ b := by rcases z with z | z <;> rw [z] <;> first | exact Nat.le_refl _ | exact Nat.le_succ _
    exact I1.fpOk le (I1.hok.fresh le)
  rcases hq with ⟨hq, q⟩ | ⟨hq, q⟩
  · obtain ⟨its, rv, pl, _⟩ := I1.list hq
    refine call_enumerate_list pl.isList fun h2 en tt sz2 kp => wpAny_pyIter_enum en ?_
    refine ⟨s1.heap.objs.size + 1, [s1.heap.objs.size + 1, s1.heap.objs.size], _, _, H1, rfl, I1.kept (t' := s1.toks) kp, turn_enum a (s1.heap.objs.size + 1) s1.heap.objs.size, ⟨⟨.none, en⟩, tt, Nat.succ_ne_self _⟩, fun b hb => ?_, q⟩
    exact lay b (by simpa using hb)
  · obtain ⟨its, rv, pl, _⟩ := I1.tuple hq
    refine call_enum_one (begins_tuple a its.toArray) pl fun h2 en tt kp => wpAny_pyIter_enum en ?_
    refine ⟨s1.heap.objs.size + 1, [s1.heap.objs.size + 1, s1.heap.objs.size], _, _, H1, rfl, I1.kept (t' := s1.toks) kp, turn_enumT a (s1.heap.objs.size + 1) s1.heap.objs.size, ⟨⟨.none, en⟩, ⟨_, tt, rfl, rfl⟩, Nat.succ_ne_self _⟩, fun b hb => ?_, q⟩
    exact lay b (by simpa using hb)
end GL

set_option Elab.async false
set_option linter.all false
set_option maxRecDepth 100000
set_option maxHeartbeats 4000000
namespace KM
open PySem PySem.Spec PyProof.Rows L2 GL
/-! conditions, and the checks, as far as right values go -/
abbrev sAmo : Stmt := top 25
abbrev sEn : Stmt := top 39
abbrev sCo : Stmt := top 40
abbrev sCg : Stmt := top 41
abbrev sCc : Stmt := top 42
def Sq (K : PySem.W.Frag) (H : Hp) (a : Addr) (xs : List V) : Prop := SqL K H a xs ∨ SqT K H a xs
theorem Sq.same {K : PySem.W.Frag} {H H' : Hp} {a : Addr} {xs : List V} (h : Sq K H a xs) (s : Same H H') : Sq K H' a xs := h.imp s.seq (same_tup s)
def spEn (K : PySem.W.Frag) : Sp := fun vs H Q _ => ∃ (a : Option Str) (G : Addr) (gs : List Str), vs = [.ref G, oV a] ∧ Sq K H G (gs.map V.str) ∧ (∀ x, a = some x → x ∈ gs) ∧ ∀ H', Same H H' → Q (.bl true) H'
/-- is_among of a text: whether it is one of them -/
def spAmo (K : PySem.W.Frag) : Sp := fun vs H Q _ => ∃ (x : Str) (G : Addr) (gs : List Str), vs = [.ref G, .str x] ∧ Sq K H G (gs.map V.str) ∧ ∀ H', Same H H' → Q (.bl (inV (.str x) (gs.map V.str))) H'
def spCo (K : PySem.W.Frag) : Sp := fun vs H Q _ => ∃ (t G : Addr) (gs : List Str) (r : Row), vs = [.ref G, .ref t] ∧ RowAt H t r ∧ Sq K H G (gs.map V.str) ∧ GoodGs gs ∧ GoodRow gs r ∧ ∀ H', Same H H' → Q (.bl true) H'
def spCg (K : PySem.W.Frag) : Sp := fun vs H Q _ => ∃ (G : Addr) (gs : List Str), vs = [.ref G] ∧ Sq K H G (gs.map V.str) ∧ GoodGs gs ∧ ∀ H', Same H H' → Q .non H'
def spCc (K : PySem.W.Frag) : Sp := fun vs H Q _ => ∃ (G R : Addr) (gs : List Str) (rs : List Row) (as : List Addr), vs = [.ref G, .ref R] ∧ Sq K H G (gs.map V.str) ∧ Sq K H R (as.map V.ref) ∧ RowsIn H as rs ∧ GoodGs gs ∧ GoodRows gs rs ∧ ∀ H', Same H H' → Q .non H'
theorem in_strs {x : Str} {gs : List Str} (h : x ∈ gs) : inV (.str x) (gs.map V.str) = true :=
  List.any_eq_true.mpr ⟨.str x, List.mem_map.mpr ⟨x, h, rfl⟩, by show (x == x) = true; simp⟩
theorem flat_strs (gs : List Str) : (gs.map V.str).all flatV = true := by
  rw [List.all_eq_true]
  intro v hv
  obtain ⟨x, _, rfl⟩ := List.mem_map.mp hv
  rfl
/-- a turn of enumerate: a new pair -/
def YEn (xs : List V) : Nat → Hp → V → Hp → Prop := fun i H v H' => ∃ T x, v = .ref T ∧ H T = none ∧ H' = upd H T (.tup [.int (i : Nat), x]) ∧ xs[i]? = some x
theorem walk_eL {K : PySem.W.Frag} {a : Addr} {xs : List V} : Walk (Ite K a) xs.length (fun H => SqL K H a xs) (YEn xs) :=
  ⟨fun i _ hi h => ⟨xs, xs[i], h, by simp [hi]⟩, fun _ h => ⟨xs, h, Nat.le_refl _⟩, fun i H x H' _ h y => by
    obtain ⟨T, z, e, n, u, w⟩ := y
    exact ⟨T, z, e, n, u, w _ h⟩⟩
theorem walk_eT {K : PySem.W.Frag} {a : Addr} {xs : List V} : Walk (ItT K a) xs.length (fun H => SqT K H a xs) (YEn xs) :=
  ⟨fun i _ hi h => ⟨xs, xs[i], h, by simp [hi]⟩, fun _ h => ⟨xs, h, Nat.le_refl _⟩, fun i H x H' _ h y => by
    obtain ⟨T, z, e, n, u, w⟩ := y
    exact ⟨T, z, e, n, u, w _ h⟩⟩
/-- what a for asks of its walk -/
abbrev ForW (J : It) (g : TG) (tb : TS) (D : L2.Ends) (σ : L2.St) (H : Hp) : Prop :=
  ∃ W : Nat → Nat → L2.St → Hp → Prop, (∃ m, W 0 m σ H) ∧ ∀ i m σ H, W i m σ H → (J.stop i H ∧ D.nx σ H) ∨
    (J.go i H ∧ ∃ N : L2.St → Hp → Prop, (∀ σ' H', N σ' H' → ∃ m', m' < m ∧ W (i + 1) m' σ' H') ∧ ∀ x H', J.yld i H x H' → g x σ H' fun σ2 H2 => tb { D with nx := N, ct := N, bk := D.nx } σ2 H2)
theorem for_enum {K : PySem.W.Frag} {a : Addr} {xs : List V} {g : TG} {tb : TS} {D : L2.Ends} {σ : L2.St} {H0 H : Hp} (hq : Sq K H0 a xs) (s0 : Same H0 H) (Pv : Nat → L2.St → Hp → Prop) (h0 : Pv 0 σ H)
    (hS : ∀ i σ' H', Pv i σ' H' → Same H0 H') (hs : ∀ i x σ' H1 H', i < xs.length → Pv i σ' H1 → YEn xs i H1 x H' → g x σ' H' fun σ2 H2 => tb { D with nx := Pv (i + 1), ct := Pv (i + 1), bk := D.nx } σ2 H2)
    (hd : ∀ σ' H', Pv xs.length σ' H' → D.nx σ' H') : (SqL K H a xs ∧ ForW (Ite K a) g tb D σ H) ∨ (SqT K H a xs ∧ ForW (ItT K a) g tb D σ H) := by
  rcases hq with q | q
  · exact .inl ⟨s0.seq q, for_it walk_eL Pv h0 (fun i σ' H' _ p => (hS i σ' H' p).seq q) hs hd⟩
  · exact .inr ⟨same_tup s0 q, for_it walk_eT Pv h0 (fun i σ' H' _ p => same_tup (hS i σ' H' p) q) hs hd⟩
/-- the dict of the goods ahead -/
def dKs (gs : List Str) : List (L2.Key × V) := gs.map fun x => (Sum.inr x, .bl true)
theorem dks_none {x : Str} : ∀ {gs : List Str}, x ∉ gs → valV (dKs gs) (Sum.inr x : L2.Key) = none
  | [], _ => rfl
  | a :: r, h => by
    have h1 : ¬ (Sum.inr a : L2.Key) = Sum.inr x := fun z => h (by cases z; exact List.mem_cons_self)
    show valV ((Sum.inr a, V.bl true) :: dKs r) _ = none
    rw [valV_neg h1]
    exact dks_none fun z => h (List.mem_cons_of_mem _ z)
theorem dks_put {x : Str} {gs : List Str} (h : x ∉ gs) : putK (dKs gs) (Sum.inr x : L2.Key) (.bl true) = dKs (gs ++ [x]) := by
  unfold putK
  rw [valV_any, dks_none h]
  show dKs gs ++ [(Sum.inr x, V.bl true)] = _
  unfold dKs
  rw [List.map_append]
  rfl
theorem nodup_at {gs : List Str} (h : gs.Nodup) {i : Nat} {x : Str} (e : gs[i]? = some x) : x ∉ gs.take i := by
  intro m
  obtain ⟨j, hj, ej⟩ := List.mem_iff_getElem.mp m
  rw [List.length_take] at hj
  rw [List.getElem_take] at ej
  obtain ⟨hi, ei⟩ := List.getElem?_eq_some_iff.mp e
  exact List.pairwise_iff_getElem.mp h j i (by omega) hi (by omega) (ej.trans ei.symm)
section
variable {P : Program} {w : World} {K : PySem.W.Frag} {mg : Str → Option Value} {base : Heap}
theorem scAmo : FnScope ["names", "value"] ["names", "value"] (defScope sAmo) := ⟨rfl, rfl, rfl, by decide +kernel, rfl, by decide +kernel, by decide +kernel⟩
theorem scEn : FnScope ["goods", "value"] ["goods", "value"] (defScope sEn) := ⟨rfl, rfl, rfl, by decide +kernel, rfl, by decide +kernel, by decide +kernel⟩
theorem scCo : FnScope ["goods", "value", "one", "other", "most"] ["goods", "value"] (defScope sCo) := ⟨rfl, rfl, rfl, by decide +kernel, rfl, by decide +kernel, by decide +kernel⟩
theorem scCg : FnScope ["goods", "ahead", "position", "good"] ["goods"] (defScope sCg) := ⟨rfl, rfl, rfl, by decide +kernel, rfl, by decide +kernel, by decide +kernel⟩
theorem scCc : FnScope ["goods", "conditions", "position", "condition"] ["goods", "conditions"] (defScope sCc) := ⟨rfl, rfl, rfl, by decide +kernel, rfl, by decide +kernel, by decide +kernel⟩
theorem ok_am {f : Addr} {fd : FuncData} (F : Fun K "is_among" "is_among" sAmo f fd) (T : Bi mg) : FnG P w K mg base CX0 1 f fd ["names", "value"] (spAmo K) := by
  refine okG F scAmo (fun vs H Q E h => ?_) (fun cdv A out s H vs Q E g hr h => ?_)
  · obtain ⟨x, G, gs, rfl, _⟩ := h
    rfl
  · obtain ⟨x, G, gs, rfl, hq, q⟩ := h
    refine ⟨_, (pss_one (ps_ret (pe_and (pe_callB call_isi (by rfl) T.isinstance (by decide +kernel) (pa_cons (pv 1) (pa_cons (pe_bltn (v := .ty "str") (u := .type "str") (by rfl) T.str (by decide +kernel) rfl) pa_nil))) (pe_one (pe_cmpR op_in_seq (pv 1) (pv 0) rfl))))), ?_⟩
    refine ⟨_, rfl, .str x, .ty "str", .type "str", .type "str", true, rfl, .ty "str", .base (.str x), kit_ty (by decide +kernel), true, rfl, ?_⟩
    refine ⟨_, rfl, _, rfl, G, _, rfl, hq, rfl, flat_strs gs, ?_⟩
    exact q H (Same.refl' _)
theorem ok_end {f : Addr} {fd : FuncData} (F : Fun K "_is_one_of" "_is_one_of" sEn f fd) (AM : Has P w K mg base "is_among" 1 ["names", "value"] (spAmo K)) : FnG P w K mg base CX0 2 f fd ["goods", "value"] (spEn K) := by
  refine okG F scEn (fun vs H Q E h => ?_) (fun cdv A out s H vs Q E g hr h => ?_)
  · obtain ⟨a, G, gs, rfl, _⟩ := h
    rfl
  · obtain ⟨a, G, gs, rfl, hq, ha, q⟩ := h
    refine ⟨_, (pss_one (ps_ret (pe_or (pe_cmpR op_isN (pv 1) pe_non (nomark _)) (pe_one (pe_has AM g hr (by rfl) (pa_cons (pv 0) (pa_cons (pv 1) pa_nil))))))), ?_⟩
    cases a with
    | none =>
      exact ⟨_, rfl, rfl, true, congrArg V.bl (decide_eq_true rfl), q _ (Same.refl' _)⟩
    | some x =>
      refine ⟨_, rfl, rfl, false, congrArg V.bl (decide_eq_false (by intro z; cases z)), ?_⟩
      refine ⟨_, rfl, _, rfl, rfl, rfl, x, G, gs, rfl, hq, fun H1 s1 => ?_⟩
      rw [in_strs (ha x rfl)]
      exact q H1 s1
theorem ok_cond {f : Addr} {fd : FuncData} (F : Fun K "_is_condition" "_is_condition" sCo f fd) (TR : Has P w K mg base "is_triple" 1 ["value"] spTr) (EN : Has P w K mg base "_is_one_of" 2 ["goods", "value"] (spEn K))
    (IT : Has P w K mg base "is_integer" 1 ["value"] spInt) : FnG P w K mg base CX0 3 f fd ["goods", "value"] (spCo K) := by
  refine okG F scCo (fun vs H Q E h => ?_) (fun cdv A out s H vs Q E g hr h => ?_)
  · obtain ⟨t, G, gs, r, rfl, _⟩ := h
    rfl
  · obtain ⟨t, G, gs, r, rfl, et, hq, GG, gr, q⟩ := h
    have hr1 : Room 1 _ := hr.mono (by decide)
    have hr2 : Room 2 _ := hr
    have hu := hr.units
    refine ⟨_, (pss_cons (ps_if (pt_not (pt_val (pe_has TR g hr1 (by rfl) (pa_cons (pv 1) pa_nil)))) (pss_one (ps_ret pe_bl)) pss_nil)
      (pss_cons (ps_asg (pv 1) (pg_tup rfl (pgs_cons (pg_name (i := 2) scCo.nd rfl (.inl rfl)) (pgs_cons (pg_name (i := 3) scCo.nd rfl (.inl rfl)) (pgs_cons (pg_name (i := 4) scCo.nd rfl (.inl rfl)) pgs_nil)))))
      (pss_one (ps_ret (pe_and (pe_has EN g hr2 (by rfl) (pa_cons (pv 0) (pa_cons (pv 2) pa_nil))) (pe_and (pe_has EN g hr2 (by rfl) (pa_cons (pv 0) (pa_cons (pv 3) pa_nil))) (pe_and (pe_cmpR (op_neD hu) (pv 2) (pv 3) (nomark _)) (pe_one (pe_has IT g hr1 (by rfl) (pa_cons (pv 4) pa_nil)))))))))), ?_⟩
    refine ⟨_, rfl, rfl, rfl, t, _, _, _, rfl, et, fun H1 s1 => ⟨_, rfl, ?_⟩⟩
    refine iteF ?_
    refine ⟨_, rfl, t, _, rfl, SqT.of (s1 _ _ et), rfl, _, _, rfl, _, _, rfl, _, _, rfl, rfl, ?_⟩
    refine ⟨_, rfl, _, rfl, rfl, rfl, r.1, G, gs, rfl, hq.same s1, gr.one, fun H2 s2 => ⟨true, rfl, ?_⟩⟩
    refine ⟨_, rfl, _, rfl, rfl, rfl, r.2.1, G, gs, rfl, (hq.same s1).same s2, gr.two, fun H3 s3 => ⟨true, rfl, ?_⟩⟩
    refine ⟨_, rfl, _, rfl, oD r.1, oD r.2.1, dp_o _, dp_o _, shaped_o GG _ gr.one, shaped_o GG _ gr.two, true, congrArg V.bl ?_, ?_⟩
    · rw [eqv_o, decide_eq_false gr.ne]
      rfl
    · exact ⟨_, rfl, rfl, rfl, r.2.2, rfl, fun H4 s4 => q H4 (((s1.trans s2).trans s3).trans s4)⟩
theorem ok_cg {f : Addr} {fd : FuncData} (F : Fun K "_check_goods" "_check_goods" sCg f fd) (T : Bi mg) (LS : Has P w K mg base "is_list" 1 ["value"] (spLs K)) (GD : Has P w K mg base "is_good" 2 ["value"] spNm) :
    FnG P w K mg base CX0 3 f fd ["goods"] (spCg K) := by
  refine okG F scCg (fun vs H Q E h => ?_) (fun cdv A out s H vs Q E g hr h => ?_)
  · obtain ⟨G, gs, rfl, _⟩ := h
    rfl
  · obtain ⟨G, gs, rfl, hq, GG, q⟩ := h
    have hr1 : Room 1 _ := hr.mono (by decide)
    have hu := hr.units
    refine ⟨_, (pss_cons (ps_if (PW.pt (pw_or (pt_not (pt_val (pe_has LS g hr1 (by rfl) (pa_cons (pv 0) pa_nil)))) (pw_or1 (pt_cmpR op_eq (pe_callB call_len_seq (by rfl) T.len PySem.boot_len (pa_cons (pv 0) pa_nil)) pe_int (nomark _))))) (pss_one ps_never) pss_nil)
      (pss_cons (ps_set (i := 1) scCg.nd rfl (.inl rfl) pe_dnewK)
      (pss_one (ps_for PassesOwn.never rfl (pi_enumA (by rfl) T.enumerate (pa_cons (pv 0) pa_nil)) (pg_tup rfl (pgs_cons (pg_name (i := 2) scCg.nd rfl (.inl rfl)) (pgs_cons (pg_name (i := 3) scCg.nd rfl (.inl rfl)) pgs_nil)))
      (pss_cons (ps_if (PW.pt (pw_or (pt_not (pt_val (pe_has GD g hr (by rfl) (pa_cons (pv 3) pa_nil)))) (pw_or1 (pt_cmp (pc_din (hu_of hr) (pv 3) (pv 1)))))) (pss_one ps_never) pss_nil)
      (pss_one (ps_dput (hu_of hr) (pv 1) (pv 3) pe_bl rfl))))))), ?_⟩
    refine ⟨_, rfl, rfl, rfl, G, _, rfl, hq, fun H1 s1 => ⟨_, rfl, ?_⟩⟩
    refine iteF ?_
    refine ⟨_, rfl, G, _, rfl, hq.same s1, rfl, _, rfl, ?_⟩
    have l1 := GG.l1
    have l2 := GG.l2
    rw [decide_eq_false (by intro z; injection z with z; rw [List.length_map] at z; omega)]
    refine iteF ?_
    intro d nd
    have nd0 : H d = none := s1.free nd
    refine ⟨_, rfl, G, gs.map V.str, rfl, ?_⟩
    refine for_enum hq (same_new s1 nd) (fun i σ' H' => ∃ p q, σ' = [some (.ref G), some (.ref d), p, q] ∧ Same H H' ∧ H' d = some (.dK (dKs (gs.take i)))) ⟨_, _, rfl, same_new s1 nd, upd_same⟩ (fun i σ' H' ⟨_, _, _, z, _⟩ => z) ?_ ?_
    · rintro i x σ' H2 H' hi ⟨p1, q1, rfl, s2, e2⟩ ⟨Tp, y, rfl, nT, rfl, hy⟩
      obtain ⟨x, hx, rfl⟩ := get_map hy
      have hT : Same H2 (upd H2 Tp (.tup [.int (i : Nat), .str x])) := same_new (Same.refl' _) nT
      refine ⟨Tp, _, rfl, SqT.of upd_same, rfl, _, _, rfl, _, _, rfl, rfl, ?_⟩
      refine ⟨_, rfl, rfl, rfl, x, rfl, GG.sub x (List.mem_of_getElem? hx), fun H3 s3 => ⟨_, rfl, ?_⟩⟩
      refine iteF ?_
      have e3 : H3 d = some (.dK (dKs (gs.take i))) := s3 _ _ (hT _ _ e2)
      have nx := nodup_at GG.nd hx
      refine ⟨_, rfl, _, rfl, d, _, rfl, DGet.k (k := Sum.inr x) e3, _, rfl, ?_⟩
      rw [dks_none nx]
      refine iteF ?_
      refine ⟨_, rfl, _, rfl, d, _, rfl, DPut.k (k := Sum.inr x) e3 (by unfold dKs; rw [List.length_map, List.length_take]; exact small1000 (by omega)), ?_⟩
      refine ⟨_, _, rfl, fun a o e => ?_, ?_⟩
      · rw [upd_ne (ne_of_none e nd0)]
        exact s3 _ _ (hT _ _ (s2 _ _ e))
      · rw [upd_same, dks_put nx, take_more hx]
    · rintro σ' H' ⟨_, _, rfl, z, _⟩
      exact q H' z
theorem ok_cc {f : Addr} {fd : FuncData} (F : Fun K "_check_conditions" "_check_conditions" sCc f fd) (T : Bi mg) (LS : Has P w K mg base "is_list" 1 ["value"] (spLs K)) (CO : Has P w K mg base "_is_condition" 3 ["goods", "value"] (spCo K)) :
    FnG P w K mg base CX0 4 f fd ["goods", "conditions"] (spCc K) := by
  refine okG F scCc (fun vs H Q E h => ?_) (fun cdv A out s H vs Q E g hr h => ?_)
  · obtain ⟨G, R, gs, rs, as, rfl, _⟩ := h
    rfl
  · obtain ⟨G, R, gs, rs, as, rfl, hq, hR, rows, GG, good, q⟩ := h
    have hr1 : Room 1 _ := hr.mono (by decide)
    refine ⟨_, (pss_cons (ps_if (pt_not (pt_val (pe_has LS g hr1 (by rfl) (pa_cons (pv 1) pa_nil)))) (pss_one ps_never) pss_nil)
      (pss_one (ps_for PassesOwn.never rfl (pi_enumA (by rfl) T.enumerate (pa_cons (pv 1) pa_nil)) (pg_tup rfl (pgs_cons (pg_name (i := 2) scCc.nd rfl (.inl rfl)) (pgs_cons (pg_name (i := 3) scCc.nd rfl (.inl rfl)) pgs_nil)))
      (pss_one (ps_if (pt_not (pt_val (pe_has CO g hr (by rfl) (pa_cons (pv 0) (pa_cons (pv 3) pa_nil))))) (pss_one ps_never) pss_nil))))), ?_⟩
    refine ⟨_, rfl, rfl, rfl, R, _, rfl, hR, fun H1 s1 => ⟨_, rfl, ?_⟩⟩
    refine iteF ?_
    refine ⟨_, rfl, R, as.map V.ref, rfl, ?_⟩
    refine for_enum hR s1 (fun i σ' H' => ∃ p q, σ' = [some (.ref G), some (.ref R), p, q] ∧ Same H H') ⟨_, _, rfl, s1⟩ (fun i σ' H' ⟨_, _, _, z⟩ => z) ?_ ?_
    · rintro i x σ' H2 H' hi ⟨p1, q1, rfl, s2⟩ ⟨Tp, y, rfl, nT, rfl, hy⟩
      obtain ⟨t, r, rfl, er, et⟩ := rows_at (rows_same rows s2) hy
      have hT : Same H2 (upd H2 Tp (.tup [.int (i : Nat), .ref t])) := same_new (Same.refl' _) nT
      refine ⟨Tp, _, rfl, SqT.of upd_same, rfl, _, _, rfl, _, _, rfl, rfl, ?_⟩
      refine ⟨_, rfl, _, rfl, rfl, rfl, t, G, gs, r, rfl, hT _ _ et, (hq.same s2).same hT, GG, good r (List.mem_of_getElem? er), fun H3 s3 => ⟨_, rfl, ?_⟩⟩
      refine iteF ?_
      exact ⟨_, _, rfl, (s2.trans hT).trans s3⟩
    · rintro σ' H' ⟨_, _, rfl, z⟩
      exact q H' z
end
end KM

set_option Elab.async false
set_option linter.all false
set_option maxRecDepth 100000
set_option maxHeartbeats 4000000
namespace KM
open PySem PySem.Spec PyProof.Rows L2 GL
open StX (pa_star)
/-! the class -/
abbrev mth (i : Nat) : Stmt := inClass (top 43) i
/-- what is so of the class and the file's constants -/
structure Cf (K : PySem.W.Frag) (mg : Str → Option Value) (C : Addr) : Prop where
  gM : mg "Moves" = some (.ref C)
  cl : Cls K C
  nG : NoAttr K C "_goods"
  nK : NoAttr K C "_conditions"
  hc : PySem.W.findIn K (.ref C) "__class__" = some (some (.builtin "object.__class__"))
  hn : PySem.W.specialIn K (.builtin "object.__class__") "__get__" = some (some (.builtin "getset_descriptor.__get__"))
  ht : PySem.W.takesIn K (.builtin "object.__class__") = some true
  hm : PySem.W.mroIn K C (.type "object") = some true
  kl : PySem.W.kitOne K (.type "list") (.ref C) = some false
  kt : PySem.W.kitOne K (.type "tuple") (.ref C) = some false
  kn : PySem.W.kitOne K (.type "NoneType") (.ref C) = some false
  ki : PySem.W.kitOne K (.type "int") (.ref C) = some false
  ks : PySem.W.kitOne K (.type "str") (.ref C) = some false
  c4 : ∃ t, mg "MOST_GOODS" = some (.int 4 t)
  c24 : ∃ t, mg "MOST_CONDITIONS" = some (.int 24 t)
theorem kit_own {K : PySem.W.Frag} {C : Addr} : PySem.W.kitOne K (.ref C) (.ref C) = some true := by
  unfold PySem.W.kitOne
  rw [if_pos (by simp)]
theorem lk_g (g c : Addr) : (flds g c).lookup ("_goods" : Str) = some (V.ref g) := by
  unfold flds
  rw [lookup_putF, if_neg (by decide), lookup_putF, if_pos rfl]
theorem lk_c (g c : Addr) : (flds g c).lookup ("_conditions" : Str) = some (V.ref c) := by
  unfold flds
  rw [lookup_putF, if_pos rfl]
section
variable {P : Program} {w : World} {K : PySem.W.Frag} {mg : Str → Option Value} {base : Heap} {C : Addr}
abbrev nSelf : List Str := ["self"]
theorem scGoods : FnScope nSelf ["self"] (defScope (mth 1)) := ⟨rfl, rfl, rfl, by decide +kernel, rfl, by decide +kernel, by decide +kernel⟩
theorem scConds : FnScope nSelf ["self"] (defScope (mth 2)) := ⟨rfl, rfl, rfl, by decide +kernel, rfl, by decide +kernel, by decide +kernel⟩
theorem scEqq : FnScope ["self", "other"] ["self", "other"] (defScope (mth 8)) := ⟨rfl, rfl, rfl, by decide +kernel, rfl, by decide +kernel, by decide +kernel⟩
theorem scRepr : FnScope nSelf ["self"] (defScope (mth 9)) := ⟨rfl, rfl, rfl, by decide +kernel, rfl, by decide +kernel, by decide +kernel⟩
theorem scInit : FnScope ["self", "goods", "conditions"] ["self", "goods", "conditions"] (defScope (mth 0)) := ⟨rfl, rfl, rfl, by decide +kernel, rfl, by decide +kernel, by decide +kernel⟩
theorem ok_goods {f : Addr} {fd : FuncData} (F : Fun K "goods" "Moves.goods" (mth 1) f fd) (T : Bi mg) (F4 : Cf K mg C) : FnG P w K mg base CX0 1 f fd ["self"] (spGoods C) := by
  refine okG F scGoods (fun vs H Q E h => ?_) (fun cdv A out s H vs Q E g hr h => ?_)
  · obtain ⟨m, gs, rs, rfl, _⟩ := h
    rfl
  · obtain ⟨m, gs, rs, rfl, ⟨dx, gg, c, as, e1, e2, e3, e4⟩, q⟩ := h
    refine ⟨_, (pss_one (ps_ret (pe_callTy call_listL (by rfl) T.list (by decide +kernel) (pa_cons (pe_fld (pv 0) rfl) pa_nil)))), ?_⟩
    exact ⟨_, rfl, m, C, dx, _, _, rfl, e1, F4.cl, F4.nG, lk_g gg c, gg, _, rfl, .inl (SqL.of e2), q⟩
theorem ok_conds {f : Addr} {fd : FuncData} (F : Fun K "conditions" "Moves.conditions" (mth 2) f fd) (T : Bi mg) (F4 : Cf K mg C) : FnG P w K mg base CX0 1 f fd ["self"] (spConds C) := by
  refine okG F scConds (fun vs H Q E h => ?_) (fun cdv A out s H vs Q E g hr h => ?_)
  · obtain ⟨m, gs, rs, rfl, _⟩ := h
    rfl
  · obtain ⟨m, gs, rs, rfl, ⟨dx, gg, c, as, e1, e2, e3, e4⟩, q⟩ := h
    refine ⟨_, (pss_one (ps_ret (pe_callTy call_listL (by rfl) T.list (by decide +kernel) (pa_cons (pe_fld (pv 0) rfl) pa_nil)))), ?_⟩
    exact ⟨_, rfl, m, C, dx, _, _, rfl, e1, F4.cl, F4.nK, lk_c gg c, c, _, rfl, .inl (SqL.of e3), fun L H1 n e s1 => q L as H1 n e (rows_same e4 s1) s1⟩
theorem ok_repr {f : Addr} {fd : FuncData} (F : Fun K "__repr__" "Moves.__repr__" (mth 9) f fd) (T : Bi mg) (F4 : Cf K mg C) : FnG P w K mg base CX0 1 f fd ["self"] (spRepr C) := by
  refine okG F scRepr (fun vs H Q E h => ?_) (fun cdv A out s H vs Q E g hr h => ?_)
  · obtain ⟨m, gs, rs, rfl, _⟩ := h
    rfl
  · obtain ⟨m, gs, rs, rfl, ⟨dx, gg, c, as, e1, e2, e3, e4⟩, fit, q⟩ := h
    have hu := hr.units
    refine ⟨_, (pss_one (ps_ret (pe_joined (.cons pe_str (.cons (pe_fmtD g hu (pe_fld (pv 0) rfl)) (.cons pe_str (.cons (pe_fmtD g hu (pe_fld (pv 0) rfl)) (.cons pe_str .nil)))))))), ?_⟩
    have sg := sh_gs fit.g
    have sr := sh_rows fit.g fit.r
    have lg := sg.len
    have lr := sr.len
    have fn := fit.n
    have l1 : ("Moves(" : Str).length = 6 := rfl
    have l2 : (", " : Str).length = 2 := rfl
    have l3 : (")" : Str).length = 1 := rfl
    have l0 : (Str.empty).length = 0 := rfl
    have sz := sizeLine_eq
    have k0 : Str.empty ++ ("Moves(" : Str) = ("Moves(" : Str) := rfl
    refine ⟨_, rfl, by rw [k0]; omega, ?_⟩
    rw [k0]
    refine ⟨_, rfl, m, C, dx, _, _, rfl, e1, F4.cl, F4.nG, lk_g gg c, gg, gsD gs, rfl, dp_gs (SqL.of e2), sg.shows (by decide) (by decide), _, rfl, by rw [Str.length_append]; omega, ?_⟩
    refine ⟨_, rfl, by rw [Str.length_append, Str.length_append]; omega, ?_⟩
    refine ⟨_, rfl, m, C, dx, _, _, rfl, e1, F4.cl, F4.nK, lk_c gg c, c, rowsD rs, rfl, dp_rows e4 (SqL.of e3), sr.shows (by omega) (by decide), _, rfl, by simp only [Str.length_append]; omega, ?_⟩
    refine ⟨_, rfl, by simp only [Str.length_append]; omega, ?_⟩
    exact q H (Same.refl' _)
theorem ok_eq {f : Addr} {fd : FuncData} (F : Fun K "__eq__" "Moves.__eq__" (mth 8) f fd) (T : Bi mg) (F4 : Cf K mg C) : FnG P w K mg base CX0 1 f fd ["self", "other"] (spEq K C) := by
  refine okG F scEqq (fun vs H Q E h => ?_) (fun cdv A out s H vs Q E g hr h => ?_)
  · obtain ⟨m, gs, rs, y, rfl, _⟩ := h
    rfl
  · obtain ⟨m, gs, rs, y, rfl, ⟨dx, gg, c, as, e1, e2, e3, e4⟩, fit, q⟩ := h
    have hu := hr.units
    refine ⟨_, (pss_one (ps_ret (pe_and (pe_callB call_isi (by rfl) T.isinstance (by decide +kernel) (pa_cons (pv 1) (pa_cons (pe_glob (v := .ref C) (by rfl) F4.gM rfl) pa_nil))) (pe_and (pe_cmpR (op_eqD hu) (pe_fld (pv 0) rfl) (pe_fld (pv 1) rfl) (nomark _)) (pe_one (pe_cmpR (op_eqD hu) (pe_fld (pv 0) rfl) (pe_fld (pv 1) rfl) (nomark _))))))), ?_⟩
    rcases q with ⟨m2, gs2, rs2, rfl, ⟨dx2, gg2, c2, as2, f1, f2, f3, f4⟩, fit2, q⟩ | ⟨hy, q⟩
    · refine ⟨_, rfl, .ref m2, .ref C, .ref C, .ref C, true, rfl, .own C, .base (.ins f1 F4.cl F4.hc F4.hn F4.ht F4.hm), kit_own, true, rfl, ?_⟩
      refine ⟨_, rfl, m, C, dx, _, _, rfl, e1, F4.cl, F4.nG, lk_g gg c, _, rfl, m2, C, dx2, _, _, rfl, f1, F4.cl, F4.nG, lk_g gg2 c2, gsD gs, gsD gs2, dp_gs (SqL.of e2), dp_gs (SqL.of f2), shaped_gs fit.g, shaped_gs fit2.g, ?_⟩
      rw [eqv_gs]
      by_cases hg : gs = gs2
      · refine ⟨true, congrArg V.bl (decide_eq_true hg), ?_⟩
        refine ⟨_, rfl, m, C, dx, _, _, rfl, e1, F4.cl, F4.nK, lk_c gg c, _, rfl, m2, C, dx2, _, _, rfl, f1, F4.cl, F4.nK, lk_c gg2 c2, rowsD rs, rowsD rs2, dp_rows e4 (SqL.of e3), dp_rows f4 (SqL.of f3), shaped_rows fit.g fit.r, shaped_rows fit2.g fit2.r, ?_⟩
        rw [eqv_rows]
        have z := q H (Same.refl' _)
        have e : decide (gs = gs2 ∧ rs = rs2) = decide (rs = rs2) := by simp [hg]
        rw [e] at z
        exact z
      · refine ⟨false, congrArg V.bl (decide_eq_false hg), ?_⟩
        have z := q H (Same.refl' _)
        have e : decide (gs = gs2 ∧ rs = rs2) = false := decide_eq_false fun w => hg w.1
        rw [e] at z
        exact z
    · obtain ⟨t, ht, kt⟩ : ∃ t, TyX K H y t ∧ PySem.W.kitOne K t (.ref C) = some false := by
        rcases hy with ⟨a, xs, rfl, ea | ea⟩ | rfl | ⟨i, rfl⟩ | ⟨z, rfl⟩
        · exact ⟨_, .base (.lst ea), F4.kl⟩
        · exact ⟨_, .base (.tup ea), F4.kt⟩
        · exact ⟨_, .base .non, F4.kn⟩
        · exact ⟨_, .base (.int i), F4.ki⟩
        · exact ⟨_, .base (.str z), F4.ks⟩
      exact ⟨_, rfl, y, .ref C, t, .ref C, false, rfl, .own C, ht, kt, false, rfl, q H (Same.refl' _)⟩
/-! making, changing -/
theorem Sq.ins {H : Hp} {a x dx : Addr} {xs : List V} {fs : List (Str × V)} {o : HO} (h : Sq K H a xs) (e : H x = some (.ins C dx fs)) : Sq K (upd H x o) a xs := by
  have k : ∀ {u : HO}, H a = some u → a ≠ x ∨ u = .ins C dx fs := fun {u} z => by
    by_cases q : a = x
    · subst q
      rw [e] at z
      exact .inr (Option.some.inj z).symm
    · exact .inl q
  rcases h with ((h | ⟨u, h⟩) | h) | ((h | ⟨u, h⟩) | h)
  · rcases k h with n | n
    · exact .inl (.inl (.inl (by rw [upd_ne n]; exact h)))
    · cases n
  · rcases k h with n | n
    · exact .inl (.inl (.inr ⟨u, by rw [upd_ne n]; exact h⟩))
    · cases n
  · exact .inl (.inr h)
  · rcases k h with n | n
    · exact .inr (.inl (.inl (by rw [upd_ne n]; exact h)))
    · cases n
  · rcases k h with n | n
    · exact .inr (.inl (.inr ⟨u, by rw [upd_ne n]; exact h⟩))
    · cases n
  · exact .inr (.inr h)
theorem rows_ins {H : Hp} {x dx : Addr} {fs : List (Str × V)} {o : HO} {as : List Addr} {rs : List Row} (h : RowsIn H as rs) (e : H x = some (.ins C dx fs)) : RowsIn (upd H x o) as rs :=
  rows_keep h fun t xs z => by rw [upd_ne (ne_of z e (by intro q; cases q))]; exact z
theorem MovesNew.back {H Hc H' : Hp} {m : Addr} {gs : List Str} {rs : List Row} (h : MovesNew C Hc H' m gs rs) (s : Same H Hc) : MovesNew C H H' m gs rs := by
  obtain ⟨dx, g, c, as, e1, e2, e3, e4, n1, n2⟩ := h
  exact ⟨dx, g, c, as, e1, e2, e3, e4, s.free n1, s.free n2⟩
theorem ok_init {f T0 : Addr} {fd : FuncData} (F : FunD K "__init__" "Moves.__init__" (defArgs (mth 0)) (defBody (mth 0)) (defScope (mth 0)) [.ref T0] [] f fd) (T : Bi mg) (F4 : Cf K mg C)
    (CG : Has P w K mg base "_check_goods" 3 ["goods"] (spCg K)) (CC : Has P w K mg base "_check_conditions" 4 ["goods", "conditions"] (spCc K)) :
    FnG P w K mg base CX0 5 f fd ["self", "goods", "conditions"] (spInit K C) := by
  obtain ⟨t4, h4⟩ := F4.c4
  obtain ⟨t24, h24⟩ := F4.c24
  refine okGD F scInit (fun vs H Q E h => ?_) (fun cdv A out s H vs Q E g hr h => ?_)
  · obtain ⟨x, dx, G, D, gs, as, rs, rfl, _⟩ := h
    rfl
  · obtain ⟨x, dx, G, D, gs, as, rs, rfl, hx, hG, hD, rows, GG, good, len, q⟩ := h
    have hr3 : Room 3 _ := hr.mono (by decide)
    have hr4i : Room 4 _ := hr
    have hG' : Sq K H G (gs.map V.str) := hG
    have hD' : Sq K H D (as.map V.ref) := hD
    have la : (as.map V.ref).length = rs.length := by rw [List.length_map]; exact Paired.length rows
    refine ⟨_, (pss_cons (ps_expr (pe_has CG g hr3 (by rfl) (pa_cons (pv 1) pa_nil)))
      (pss_cons (ps_expr (pe_has CC g hr4i (by rfl) (pa_cons (pv 1) (pa_cons (pv 2) pa_nil))))
      (pss_cons (ps_if (pt_cmpR op_gt (pe_callB call_len_seq (by rfl) T.len PySem.boot_len (pa_cons (pv 1) pa_nil)) (pe_glob (v := .int 4) (by rfl) h4 ⟨_, rfl⟩) (nomark _)) (pss_one L2.ps_never) pss_nil)
      (pss_cons (ps_if (pt_cmpR op_gt (pe_callB call_len_seq (by rfl) T.len PySem.boot_len (pa_cons (pv 2) pa_nil)) (pe_glob (v := .int 24) (by rfl) h24 ⟨_, rfl⟩) (nomark _)) (pss_one L2.ps_never) pss_nil)
      (pss_cons (ps_fld (pv 0) (pe_callB call_sortLT (by rfl) T.sorted (by decide +kernel) (pa_cons (pv 1) pa_nil)) rfl)
      (pss_one (ps_fld (pv 0) (pe_callTy call_listL (by rfl) T.list (by decide +kernel) (pa_cons (pv 2) pa_nil)) rfl))))))), ?_⟩
    refine ⟨_, rfl, rfl, rfl, G, gs, rfl, hG', GG, fun H1 s1 => ?_⟩
    refine ⟨_, rfl, _, rfl, rfl, rfl, G, D, gs, rs, as, rfl, hG'.same s1, hD'.same s1, rows_same rows s1, GG, good, fun H2 s2 => ?_⟩
    have s12 := s1.trans s2
    have l2 := GG.l2
    refine ⟨_, rfl, G, _, rfl, hG'.same s12, _, _, rfl, rfl, _, rfl, ?_⟩
    refine ite2 (fun c => absurd (of_decide_eq_true c) (by rw [List.length_map]; omega)) (fun _ => ?_)
    refine ⟨_, rfl, D, _, rfl, hD'.same s12, _, _, rfl, rfl, _, rfl, ?_⟩
    refine ite2 (fun c => absurd (of_decide_eq_true c) (by rw [la]; omega)) (fun _ => ?_)
    refine ⟨_, rfl, G, gs, rfl, hG'.same s12, by omega, fun ys p1 p2 g1 H3 n3 e3 s3 => ?_⟩
    have s13 := s12.trans s3
    have hx3 := s13 _ _ hx
    refine ⟨_, rfl, x, C, dx, _, rfl, hx3, F4.cl, F4.nG, by show 0 < 1000; decide, ?_⟩
    have hx4 : (upd H3 x (.ins C dx (putF "_goods" (.ref g1) []))) x = some (.ins C dx (putF "_goods" (.ref g1) [])) := upd_same
    refine ⟨_, rfl, D, _, rfl, (hD'.same s13).ins hx3, fun c1 H4 n4 e4 s4 => ?_⟩
    refine ⟨_, rfl, x, C, dx, _, rfl, s4 _ _ hx4, F4.cl, F4.nK, by show 1 < 1000; decide, ?_⟩
    have ng : g1 ≠ x := ne_of e3 hx3 (by intro z; cases z)
    have nc : c1 ≠ x := ne_some n4 hx4
    have n4' : H3 c1 = none := by rw [upd_ne nc] at n4; exact n4
    refine q ys _ p1 p2 ⟨dx, g1, c1, as, upd_same, ?_, ?_, ?_, s12.free n3, s13.free n4'⟩ fun a o na e => ?_
    · rw [upd_ne ng]
      refine s4 _ _ ?_
      rw [upd_ne ng]
      exact e3
    · rw [upd_ne nc]
      exact e4
    · exact rows_ins (rows_same (rows_ins (rows_same rows s13) hx3) s4) (s4 _ _ hx4)
    · rw [upd_ne na]
      refine s4 _ _ ?_
      rw [upd_ne na]
      exact s13 _ _ e
end
end KM

set_option Elab.async false
set_option linter.all false
set_option maxRecDepth 100000
set_option maxHeartbeats 4000000
namespace KM
open PySem PySem.Spec PyProof.Rows L2 GL
/-! tables of sums as dicts of pairs; changes as dicts of places -/
abbrev Pt := Option Str
def kO (a : Pt) : NK := a.map Sum.inr
theorem nV_kO (a : Pt) : nV (kO a) = oV a := by cases a <;> rfl
theorem kO_inj {a b : Pt} (h : kO a = kO b) : a = b := by
  cases a with
  | none => cases b with
    | none => rfl
    | some y => cases h
  | some x => cases b with
    | none => cases h
    | some y =>
      have : (Sum.inr x : L2.Key) = Sum.inr y := Option.some.inj h
      injection this with e
      rw [e]
theorem pair_inj {a b c d : Pt} (h : [kO a, kO b] = [kO c, kO d]) : a = c ∧ b = d := by
  injection h with h1 h2
  injection h2 with h2 _
  exact ⟨kO_inj h1, kO_inj h2⟩
theorem pair_vs (a b : Pt) : ([kO a, kO b] : List NK).map nV = [oV a, oV b] := by
  show [nV (kO a), nV (kO b)] = _
  rw [nV_kO, nV_kO]
/-- the dict at a holds the sums of f, at most n of them -/
structure TabK (kvs : List (List NK × V)) (f : KN.Tab Pt) (n : Nat) : Prop where
  len : kvs.length ≤ n
  val : ∀ x y, valV kvs [kO x, kO y] = (f x y).map V.int
  ent : ∀ p ∈ kvs, ∃ x y i, p = ([kO x, kO y], V.int i)
  nd : (kvs.map (·.1)).Nodup
def TabAt (P : Program) (w : World) (H : Hp) (a : Addr) (f : KN.Tab Pt) (n : Nat) : Prop := ∃ kvs, PD P w H a kvs ∧ TabK kvs f n
theorem TabK.put {kvs : List (List NK × V)} {f : KN.Tab Pt} {n : Nat} (h : TabK kvs f n) (x y : Pt) (s : Int) : TabK (putK kvs [kO x, kO y] (.int s)) (f.put x y s) (n + 1) where
  len := Nat.le_trans (length_putK kvs _ _) (Nat.succ_le_succ h.len)
  val := fun u v => by
    rw [valV_put]
    unfold KN.Tab.put
    by_cases e : u = x ∧ v = y
    · obtain ⟨rfl, rfl⟩ := e
      rw [if_pos rfl, if_pos ⟨rfl, rfl⟩]
      rfl
    · rw [if_neg (fun z => e (pair_inj z)), if_neg e]
      exact h.val u v
  ent := fun p hp => by
    unfold putK at hp
    split at hp
    · obtain ⟨q, hq, rfl⟩ := List.mem_map.mp hp
      split
      · rename_i e
        exact ⟨x, y, s, by rw [e]⟩
      · exact h.ent q hq
    · rcases List.mem_append.mp hp with hp | hp
      · exact h.ent p hp
      · exact ⟨x, y, s, List.mem_singleton.mp hp⟩
  nd := by
    cases e : valV kvs [kO x, kO y] with
    | none => exact nd_putK (κ := List NK) _ h.nd e
    | some v =>
      have z : putK kvs [kO x, kO y] (.int s) = kvs.map fun kv => if kv.1 = [kO x, kO y] then (kv.1, V.int s) else kv := by
        unfold putK
        rw [valV_any, e]
        rfl
      rw [z, List.map_map]
      have e2 : ((fun q : List NK × V => q.1) ∘ fun kv : List NK × V => if kv.1 = [kO x, kO y] then (kv.1, V.int s) else kv) = (fun q => q.1) := by
        funext q
        show (if q.1 = [kO x, kO y] then (q.1, V.int s) else q).1 = q.1
        split <;> rfl
      rw [e2]
      exact h.nd
theorem TabK.empty : TabK [] (fun _ _ => none) 0 where
  len := Nat.le_refl _
  val := fun _ _ => rfl
  ent := fun _ hp => nomatch hp
  nd := .nil
theorem TabK.mono {kvs : List (List NK × V)} {f : KN.Tab Pt} {n m : Nat} (h : TabK kvs f n) (l : n ≤ m) : TabK kvs f m := ⟨Nat.le_trans h.len l, h.val, h.ent, h.nd⟩
section
variable {P : Program} {w : World} {H H' : Hp} {a b p : Addr} {f : KN.Tab Pt} {n m : Nat}
theorem TabAt.same (h : TabAt P w H a f n) (s : Same H H') : TabAt P w H' a f n := by
  obtain ⟨kvs, e, k⟩ := h
  exact ⟨kvs, pd_same e s, k⟩
theorem TabAt.but {zs : List V} (h : TabAt P w H a f n) (bt : But p H H') (ne : a ≠ p) (e : H p = some (.lst zs)) : TabAt P w H' a f n := by
  obtain ⟨kvs, pd, k⟩ := h
  exact ⟨kvs, pd_but pd bt ne e (fun ys z => by cases z), k⟩
theorem TabAt.ne {o : HO} (h : TabAt P w H a f n) (e : H p = some o) (no : ∀ φ, o ≠ .ext φ) : a ≠ p := by
  obtain ⟨kvs, ⟨xs, e1, _⟩, _⟩ := h
  exact ne_of e1 e fun z => no _ z.symm
/-- a table that is no list is not the one that is changed -/
theorem TabAt.lst {zs : List V} (h : TabAt P w H a f n) (bt : But p H H') (e : H p = some (.lst zs)) : TabAt P w H' a f n :=
  h.but bt (h.ne e fun φ z => by cases z) e
theorem TabAt.mono (h : TabAt P w H a f n) (l : n ≤ m) : TabAt P w H a f m := by
  obtain ⟨kvs, pd, k⟩ := h
  exact ⟨kvs, pd, k.mono l⟩
theorem TabAt.get {x y : Pt} (h : TabAt P w H a f n) (e : H b = some (.tup [oV x, oV y])) : OGet P w H a (.ref b) ((f x y).map V.int) := by
  obtain ⟨kvs, pd, k⟩ := h
  exact .inr ⟨kvs, [kO x, kO y], b, pd, rfl, by rw [pair_vs]; exact e, (k.val x y).symm⟩
theorem TabAt.put {x y : Pt} {s : Int} {R : Hp → Prop} (h : TabAt P w H a f n) (e : H b = some (.tup [oV x, oV y])) (l : n < 1000) (r : ∀ H', TabAt P w H' a (f.put x y s) (n + 1) → But a H H' → R H') :
    OPut P w H a (.ref b) (.int s) R := by
  obtain ⟨kvs, pd, k⟩ := h
  exact .inr ⟨kvs, [kO x, kO y], b, pd, rfl, by rw [pair_vs]; exact e, small1000 (Nat.le_of_lt (Nat.lt_of_le_of_lt k.len l)), fun H' pd' bt => r H' ⟨_, pd', k.put x y s⟩ bt⟩
theorem TabAt.free (h : TabAt P w H a f n) : ∃ o, H a = some o := by
  obtain ⟨kvs, ⟨xs, e1, _⟩, _⟩ := h
  exact ⟨_, e1⟩
end
/-- == of two such dicts -/
theorem valV_mem {κ : Type} [DecidableEq κ] : ∀ {kvs : List (κ × V)} {k : κ} {v : V}, (kvs.map (·.1)).Nodup → (k, v) ∈ kvs → valV kvs k = some v
  | [], _, _, _, h => nomatch h
  | q :: r, k, v, nd, h => by
    have nd' := List.nodup_cons.mp nd
    rcases List.mem_cons.mp h with e | h
    · subst e
      exact valV_pos rfl
    · by_cases c : q.1 = k
      · exact absurd (List.mem_map.mpr ⟨(k, v), h, c.symm⟩) nd'.1
      · rw [valV_neg c]
        exact valV_mem nd'.2 h
theorem mem_valV {κ : Type} [DecidableEq κ] : ∀ {kvs : List (κ × V)} {k : κ} {v : V}, valV kvs k = some v → (k, v) ∈ kvs
  | [], _, _, h => nomatch h
  | q :: r, k, v, h => by
    by_cases c : q.1 = k
    · rw [valV_pos c] at h
      have := Option.some.inj h
      subst c this
      exact List.mem_cons_self ..
    · rw [valV_neg c] at h
      exact List.mem_cons_of_mem _ (mem_valV h)
theorem tabs_eq {ks ls : List (List NK × V)} {f g : KN.Tab Pt} {n m : Nat} (hk : TabK ks f n) (hl : TabK ls g m) :
    (ks.length == ls.length && ks.all fun p => decide (valV ls p.1 = some p.2)) = true ↔ ∀ x y, f x y = g x y := by
  rw [Bool.and_eq_true, beq_iff_eq, List.all_eq_true]
  have up : (∀ p ∈ ks, decide (valV ls p.1 = some p.2) = true) ↔ ∀ x y s, f x y = some s → g x y = some s := by
    constructor
    · intro h x y s e
      have v : valV ks [kO x, kO y] = some (.int s) := by rw [hk.val, e]; rfl
      have z := of_decide_eq_true (h _ (mem_valV v))
      dsimp only at z
      rw [hl.val] at z
      cases q : g x y with
      | none => rw [q] at z; cases z
      | some t =>
        rw [q] at z
        have z : some (V.int t) = some (V.int s) := z
        cases z
        rfl
    · intro h p hp
      obtain ⟨x, y, i, rfl⟩ := hk.ent p hp
      refine decide_eq_true ?_
      have v := valV_mem hk.nd hp
      rw [hk.val] at v
      dsimp only
      rw [hl.val]
      cases q : f x y with
      | none => rw [q] at v; cases v
      | some t =>
        rw [q] at v
        have v : some (V.int t) = some (V.int i) := v
        cases v
        rw [h x y _ q]
        rfl
  rw [up]
  have sub : ∀ {ks ls : List (List NK × V)} {f g : KN.Tab Pt} {n m : Nat}, TabK ks f n → TabK ls g m → (∀ x y s, f x y = some s → g x y = some s) → ∀ k ∈ ks.map (·.1), k ∈ ls.map (·.1) := by
    intro ks ls f g n m hk hl h k q
    obtain ⟨p, hp, rfl⟩ := List.mem_map.mp q
    obtain ⟨x, y, i, rfl⟩ := hk.ent p hp
    have v := valV_mem hk.nd hp
    rw [hk.val] at v
    cases q2 : f x y with
    | none => rw [q2] at v; cases v
    | some t =>
      have z := h x y t q2
      have v2 : valV ls [kO x, kO y] = some (.int t) := by rw [hl.val, z]; rfl
      exact List.mem_map.mpr ⟨_, mem_valV v2, rfl⟩
  constructor
  · rintro ⟨len, h⟩ x y
    cases q : f x y with
    | some s => exact (h x y s q).symm
    | none =>
      cases q2 : g x y with
      | none => rfl
      | some t =>
        exfalso
        have v2 : valV ls [kO x, kO y] = some (.int t) := by rw [hl.val, q2]; rfl
        have m2 : [kO x, kO y] ∈ ls.map (·.1) := List.mem_map.mpr ⟨_, mem_valV v2, rfl⟩
        have n2 : [kO x, kO y] ∉ ks.map (·.1) := fun z => by
          obtain ⟨⟨k, v⟩, hp, e⟩ := List.mem_map.mp z
          have v3 := valV_mem hk.nd hp
          dsimp only at e
          rw [e, hk.val, q] at v3
          cases v3
        have c := KN.len_of_nodup (l := [kO x, kO y] :: ks.map (·.1)) (V := ls.map (·.1)) (List.nodup_cons.mpr ⟨n2, hk.nd⟩) fun z hz => by
          rcases List.mem_cons.mp hz with rfl | hz
          · exact m2
          · exact sub hk hl h z hz
        simp only [List.length_cons, List.length_map] at c
        omega
  · intro h
    refine ⟨?_, fun x y s e => (h x y).symm.trans e⟩
    have c1 := KN.len_of_nodup hk.nd (sub hk hl fun x y s e => (h x y).symm.trans e)
    have c2 := KN.len_of_nodup hl.nd (sub hl hk fun x y s e => (h x y).trans e)
    simp only [List.length_map] at c1 c2
    omega
/-! changes: a dict of all places -/
def ChgK (V0 : List Pt) (f : Pt → Int) : List (NK × V) := V0.map fun p => (kO p, V.int (f p))
theorem chg_val {V0 : List Pt} {f : Pt → Int} : ∀ {p : Pt}, p ∈ V0 → valV (ChgK V0 f) (kO p) = some (.int (f p)) := by
  induction V0 with
  | nil => intro p h; cases h
  | cons a r ih =>
    intro p h
    by_cases e : p = a
    · subst e
      exact valV_pos rfl
    · have h' := (List.mem_cons.mp h).resolve_left e
      have : ¬ kO a = kO p := fun z => e (kO_inj z).symm
      exact (valV_neg (κ := NK) (p := (kO a, V.int (f a))) this).trans (ih h')
theorem chg_put {V0 : List Pt} {f : Pt → Int} {p : Pt} {s : Int} (h : p ∈ V0) : putK (ChgK V0 f) (kO p) (.int s) = ChgK V0 (fun q => if q = p then s else f q) := by
  unfold putK
  rw [valV_any, chg_val h]
  show (ChgK V0 f).map _ = _
  unfold ChgK
  rw [List.map_map]
  refine List.map_congr_left fun q hq => ?_
  show (if kO q = kO p then (kO q, V.int s) else (kO q, V.int (f q))) = _
  by_cases e : q = p
  · subst e
    simp
  · rw [if_neg (fun z => e (kO_inj z))]
    simp [e]
end KM

set_option Elab.async false
set_option linter.all false
set_option maxRecDepth 100000
set_option maxHeartbeats 4000000
namespace KM
open PySem PySem.Spec PyProof.Rows L2 GL
open StX (pa_star)
/-! Chains -/
abbrev chm (i : Nat) : Stmt := inClass (top 3) i
/-- what is so of the class -/
structure Ch (K : PySem.W.Frag) (mg : Str → Option Value) (D : Addr) : Prop where
  gC : mg "Chains" = some (.ref D)
  cl : Cls K D
  nP : NoAttr K D "_places"
  nK : NoAttr K D "_conditions"
  nM : NoAttr K D "_many"
  nS : NoAttr K D "_least_sums"
def cfl (pl cs : Addr) (n : Int) (ls : Addr) : List (Str × V) := putF "_least_sums" (.ref ls) (putF "_many" (.int n) (putF "_conditions" (.ref cs) (putF "_places" (.ref pl) [])))
theorem cfl_p {pl cs ls : Addr} {n : Int} : (cfl pl cs n ls).lookup ("_places" : Str) = some (V.ref pl) := by
  unfold cfl
  rw [lookup_putF, if_neg (by decide), lookup_putF, if_neg (by decide), lookup_putF, if_neg (by decide), lookup_putF, if_pos rfl]
theorem cfl_c {pl cs ls : Addr} {n : Int} : (cfl pl cs n ls).lookup ("_conditions" : Str) = some (V.ref cs) := by
  unfold cfl
  rw [lookup_putF, if_neg (by decide), lookup_putF, if_neg (by decide), lookup_putF, if_pos rfl]
theorem cfl_m {pl cs ls : Addr} {n : Int} : (cfl pl cs n ls).lookup ("_many" : Str) = some (V.int n) := by
  unfold cfl
  rw [lookup_putF, if_neg (by decide), lookup_putF, if_pos rfl]
theorem cfl_s {pl cs ls : Addr} {n : Int} : (cfl pl cs n ls).lookup ("_least_sums" : Str) = some (V.ref ls) := by
  unfold cfl
  rw [lookup_putF, if_pos rfl]
theorem cfl_o {pl cs ls : Addr} {n : Int} {m : Str} (h1 : ¬ m = "_least_sums") (h2 : ¬ m = "_many") (h3 : ¬ m = "_conditions") (h4 : ¬ m = "_places") : (cfl pl cs n ls).lookup m = none := by
  unfold cfl
  rw [lookup_putF, if_neg h1, lookup_putF, if_neg h2, lookup_putF, if_neg h3, lookup_putF, if_neg h4]
  rfl
def pts (gs : List Str) : List Pt := none :: gs.map some
theorem pts_len (gs : List Str) : (pts gs).length = gs.length + 1 := by simp [pts]
theorem in_pts {gs : List Str} {a : Pt} (h : ∀ x, a = some x → x ∈ gs) : a ∈ pts gs := by
  cases a with
  | none => exact List.mem_cons_self ..
  | some x => exact List.mem_cons_of_mem _ (List.mem_map.mpr ⟨x, h x rfl, rfl⟩)
theorem good_in {gs : List Str} {rs : List Row} (h : GoodRows gs rs) : KN.In (pts gs) rs := fun r hr => ⟨in_pts (h r hr).one, in_pts (h r hr).two⟩
/-- the object, ls being its list of tables -/
structure ChObj (D : Addr) (H : Hp) (c pl cs ls : Addr) (gs : List Str) (rs : List Row) : Prop where
  ob : ∃ dx, H c = some (.ins D dx (cfl pl cs (gs.length + 1 : Nat) ls))
  pl : H pl = some (.lst ((pts gs).map oV))
  cs : ∃ as, H cs = some (.lst (as.map V.ref)) ∧ RowsIn H as rs
theorem ChObj.same {D : Addr} {H H' : Hp} {c pl cs ls : Addr} {gs : List Str} {rs : List Row} (h : ChObj D H c pl cs ls gs rs) (s : Same H H') : ChObj D H' c pl cs ls gs rs := by
  obtain ⟨⟨dx, e1⟩, e2, as, e3, e4⟩ := h
  exact ⟨⟨dx, s _ _ e1⟩, s _ _ e2, as, s _ _ e3, rows_same e4 s⟩
theorem same_but {H H1 H2 : Hp} {d : Addr} (s : Same H H1) (b : But d H1 H2) (n : H d = none) : Same H H2 := fun a o e => b _ _ (ne_of_none e n) (s _ _ e)
theorem oV_at {l : List Pt} {j : Nat} {x : V} (h : (l.map oV)[j]? = some x) : ∃ p, l[j]? = some p ∧ x = oV p := get_map h
def spLg (P : Program) (w : World) (D : Addr) : Sp := fun vs H Q _ => ∃ (c t pl cs ls : Addr) (gs : List Str) (rs : List Row) (k : Nat) (f : KN.Tab Pt), vs = [.ref c, .ref t] ∧ ChObj D H c pl cs ls gs rs ∧ gs.length ≤ 4 ∧ GoodRows gs rs ∧ rs.length ≤ 25 ∧
  TabAt P w H t f 200 ∧ KN.Exact rs (pts gs) k f ∧ ∀ d f' H', H d = none → TabAt P w H' d f' 200 → KN.Exact rs (pts gs) (k + 1) f' → Same H H' → Q (.ref d) H'
abbrev nLg : List Str := ["self", "sums", "told", "one", "other", "most", "last", "total"]
theorem scLg : FnScope nLg ["self", "sums"] (defScope (chm 1)) := ⟨rfl, rfl, rfl, by decide +kernel, rfl, by decide +kernel, by decide +kernel⟩
section
variable {P : Program} {w : World} {K : PySem.W.Frag} {mg : Str → Option Value} {base : Heap} {D : Addr}
theorem ok_longer {f : Addr} {fd : FuncData} (F : Fun K "_longer" "Chains._longer" (chm 1) f fd) (T : Bi mg) (C : Ch K mg D) : FnG P w K mg base CX0 1 f fd ["self", "sums"] (spLg P w D) := by
  refine okG F scLg (fun vs H Q E h => ?_) (fun cdv A out s H vs Q E g hr h => ?_)
  · obtain ⟨c, t, pl, cs, ls, gs, rs, k, f, rfl, _⟩ := h
    rfl
  · obtain ⟨c, t, pl, cs, ls, gs, rs, k, f, rfl, ho, lg, good, lr, ht, hx, q⟩ := h
    have hu : ∀ X : Cx, X.A.units + 64 < cLine → X.A.units + 1 < cLine := fun _ h => by omega
    have hu64 := hr.units
    refine ⟨_, (pss_cons (ps_set (i := 2) scLg.nd rfl (.inl rfl) pe_pnew)
      (pss_cons (ps_for PassesOwn.never rfl (pi_list (pe_fld (pv 0) rfl)) (pg_tup rfl (pgs_cons (pg_name (i := 3) scLg.nd rfl (.inl rfl)) (pgs_cons (pg_name (i := 4) scLg.nd rfl (.inl rfl)) (pgs_cons (pg_name (i := 5) scLg.nd rfl (.inl rfl)) pgs_nil))))
      (pss_one (ps_for PassesOwn.never rfl (pi_list (pe_fld (pv 0) rfl)) (pg_name (i := 6) scLg.nd rfl (.inl rfl))
      (pss_one (ps_if (pt_cmp (pc_oin (by have := hr.units; exact Nat.lt_of_le_of_lt (Nat.add_le_add_left (by decide) _) this) (pe_tupL (pa_cons (pv 4) (pa_cons (pv 6) pa_nil))) (pv 1))) (pss_cons (ps_set (i := 7) scLg.nd rfl (.inl rfl) (pe_op op_add (pv 5) (pe_oget (by have := hr.units; exact Nat.lt_of_le_of_lt (Nat.add_le_add_left (by decide) _) this) (pv 1) (pe_tupL (pa_cons (pv 4) (pa_cons (pv 6) pa_nil))) (fun _ _ => rfl))))
      (pss_one (ps_if (PW.pt (pw_or (pt_cmp (pc_onotin (by have := hr.units; exact Nat.lt_of_le_of_lt (Nat.add_le_add_left (by decide) _) this) (pe_tupL (pa_cons (pv 3) (pa_cons (pv 6) pa_nil))) (pv 2))) (pw_or1 (pt_cmpR op_lt (pv 7) (pe_oget (by have := hr.units; exact Nat.lt_of_le_of_lt (Nat.add_le_add_left (by decide) _) this) (pv 2) (pe_tupL (pa_cons (pv 3) (pa_cons (pv 6) pa_nil))) (fun _ _ => rfl)) (nomark _))))) (pss_one (ps_oput (by have := hr.units; exact Nat.lt_of_le_of_lt (Nat.add_le_add_left (by decide) _) this) (pv 2) (pe_tupL (pa_cons (pv 3) (pa_cons (pv 6) pa_nil))) (pv 7) rfl)) pss_nil))) pss_nil)))))
      (pss_one (ps_ret (pv 2))))), ?_⟩
    intro d H1 nd1 td1 s1
    obtain ⟨dx, eo⟩ := ho.ob
    obtain ⟨as, ec, ra⟩ := ho.cs
    have td0 : TabAt P w H1 d (fun _ _ => none) 0 := ⟨[], td1, TabK.empty⟩
    refine ⟨_, rfl, c, D, dx, _, _, rfl, s1 _ _ eo, C.cl, C.nK, cfl_c, cs, rfl, ⟨_, SqL.of (s1 _ _ ec)⟩, ?_⟩
    refine for_list (K := K) (a := cs) (xs := as.map V.ref) (fun i σ' H' => ∃ x3 x4 x5 x6 x7, σ' = [some (.ref c), some (.ref t), some (.ref d), x3, x4, x5, x6, x7] ∧ Same H H' ∧
      ∃ f', TabAt P w H' d f' (i * 5) ∧ KN.Lg rs f f' (fun x y => x ∈ rs.take i ∧ y ∈ pts gs)) ?_ ?_ ?_ ?_
    · exact ⟨_, _, _, _, _, rfl, s1, _, td0, KN.Lg.start.weaken fun x y h => by simp at h⟩
    · rintro i σ' H' _ ⟨_, _, _, _, _, rfl, s2, _⟩
      exact SqL.of (s2 _ _ ec)
    · rintro i x σ' H2 hi ⟨_, _, _, _, _, rfl, s2, f2, t2, g2⟩
      obtain ⟨tr, r, rfl, er, et⟩ := rows_at (rows_same ra s2) hi
      refine ⟨tr, _, rfl, SqT.of et, rfl, _, _, rfl, _, _, rfl, _, _, rfl, rfl, ?_⟩
      refine ⟨_, rfl, c, D, dx, _, _, rfl, s2 _ _ eo, C.cl, C.nP, cfl_p, pl, rfl, ⟨_, SqL.of (s2 _ _ ho.pl)⟩, ?_⟩
      have lrs := lr
      have ilt : i < rs.length := by
        have := (List.getElem?_eq_some_iff.mp er).1
        exact this
      have rmem : (r.1, r.2.1, r.2.2) ∈ rs := List.mem_of_getElem? er
      refine for_list (K := K) (a := pl) (xs := (pts gs).map oV) (fun j σ' H' => ∃ x6 x7, σ' = [some (.ref c), some (.ref t), some (.ref d), some (oV r.1), some (oV r.2.1), some (.int r.2.2), x6, x7] ∧ Same H H' ∧
        ∃ f', TabAt P w H' d f' (i * 5 + j) ∧ KN.Lg rs f f' (fun x y => (x ∈ rs.take i ∧ y ∈ pts gs) ∨ (x = r ∧ y ∈ (pts gs).take j))) ?_ ?_ ?_ ?_
      · exact ⟨_, _, rfl, s2, f2, t2, g2.weaken fun x y h => h.elim id fun z => by simp at z⟩
      · rintro j σ' H' _ ⟨_, _, rfl, s3, _⟩
        exact SqL.of (s3 _ _ ho.pl)
      · rintro j x σ' H3 hj ⟨_, _, rfl, s3, f3, t3, g3⟩
        obtain ⟨b, hb, rfl⟩ := oV_at hj
        have jlt : j < (pts gs).length := (List.getElem?_eq_some_iff.mp hb).1
        rw [pts_len] at jlt
        have next : ∀ f', KN.Lg rs f f' (fun x y => ((x ∈ rs.take i ∧ y ∈ pts gs) ∨ (x = r ∧ y ∈ (pts gs).take j)) ∨ (x = (r.1, r.2.1, r.2.2) ∧ y = b)) →
            KN.Lg rs f f' (fun x y => (x ∈ rs.take i ∧ y ∈ pts gs) ∨ (x = r ∧ y ∈ (pts gs).take (j + 1))) := fun f' h => h.weaken fun x y z => by
          rcases z with z | ⟨rfl, z⟩
          · exact .inl (.inl z)
          · rw [take_more hb] at z
            rcases List.mem_append.mp z with z | z
            · exact .inl (.inr ⟨rfl, z⟩)
            · exact .inr ⟨rfl, List.mem_singleton.mp z⟩
        -- (other, last) in sums
        refine ⟨_, rfl, _, rfl, by show 2 ≤ sizeLine; decide, fun t1 H4 n4 e4 s4 => ?_⟩
        have S4 := s3.trans s4
        refine ⟨_, rfl, t, _, rfl, (ht.same S4).get e4, _, rfl, ?_⟩
        cases hf : f r.2.1 b with
        | none =>
          refine iteF ?_
          exact ⟨_, _, rfl, S4, f3, (t3.same s4).mono (by omega), next _ (g3.skip hf)⟩
        | some s0 =>
          refine iteT ?_
          refine ⟨_, rfl, _, rfl, _, rfl, _, rfl, by show 2 ≤ sizeLine; decide, fun t2' H5 n5 e5 s5 => ?_⟩
          have S5 := S4.trans s5
          refine ⟨t, _, rfl, by rw [← show ((some s0 : Option Int).map V.int) = some (V.int s0) from rfl, ← hf]; exact (ht.same S5).get e5, _, _, rfl, rfl, ?_⟩
          refine ⟨_, rfl, _, rfl, by show 2 ≤ sizeLine; decide, fun t3' H6 n6 e6 s6 => ?_⟩
          have S6 := S5.trans s6
          have t6 : TabAt P w H6 d f3 (i * 5 + j) := ((t3.same s4).same s5).same s6
          have store : ∀ (En : L2.Ends) (H7 : Hp), Same H6 H7 → (∀ s, f3 r.1 b = some s → r.2.2 + s0 < s) →
              (∀ H9, Same H H9 → (∃ f', TabAt P w H9 d f' (i * 5 + (j + 1)) ∧ KN.Lg rs f f' (fun x y => (x ∈ rs.take i ∧ y ∈ pts gs) ∨ (x = r ∧ y ∈ (pts gs).take (j + 1)))) →
                En.nx [some (.ref c), some (.ref t), some (.ref d), some (oV r.1), some (oV r.2.1), some (.int r.2.2), some (oV b), some (.int (r.2.2 + s0))] H9) →
              sOPut P w (tVar 2) (tTupL (tCons (tVar 3) (tCons (tVar 6) tNil))) (tVar 7) En
                [some (.ref c), some (.ref t), some (.ref d), some (oV r.1), some (oV r.2.1), some (.int r.2.2), some (oV b), some (.int (r.2.2 + s0))] H7 := by
            intro En H7 s7 low go
            refine ⟨_, rfl, _, rfl, _, rfl, _, rfl, by show 2 ≤ sizeLine; decide, fun t4' H8 n8 e8 s8 => ⟨d, rfl, ?_⟩⟩
            refine ((t6.same s7).same s8).put e8 (by omega) fun H9 t9 b9 => go H9 (same_but (S6.trans (s7.trans s8)) b9 nd1) ⟨_, t9, next _ (g3.put rmem hf low)⟩
          refine ⟨_, rfl, d, _, rfl, t6.get e6, ?_⟩
          cases h3 : f3 r.1 b with
          | none =>
            refine ⟨true, rfl, iteT (iteT (store _ H6 (Same.refl' _) (fun s e => by rw [h3] at e; cases e) fun H9 s9 z => ⟨_, _, rfl, s9, z⟩))⟩
          | some s' =>
            refine ⟨false, rfl, iteF ?_⟩
            refine ⟨_, rfl, _, rfl, _, rfl, _, rfl, by show 2 ≤ sizeLine; decide, fun t5' H7 n7 e7 s7 => ?_⟩
            refine ⟨d, _, rfl, by rw [← show ((some s' : Option Int).map V.int) = some (V.int s') from rfl, ← h3]; exact (t6.same s7).get e7, _, _, rfl, rfl, ?_⟩
            refine ⟨_, rfl, ?_⟩
            refine ite2 (fun c0 => ?_) (fun c0 => ?_)
            · exact store _ H7 s7 (fun s e => by rw [h3] at e; cases e; exact of_decide_eq_true c0) fun H9 s9 z => ⟨_, _, rfl, s9, z⟩
            · exact ⟨_, _, rfl, S6.trans s7, f3, (t6.same s7).mono (by omega), next _ (g3.keep hf h3 fun z => c0 (decide_eq_true z))⟩
      · rintro σ' H4 ⟨_, _, rfl, s4, f4, t4, g4⟩
        rw [List.length_map, pts_len] at t4
        rw [List.length_map, List.take_of_length_le (Nat.le_refl _)] at g4
        refine ⟨_, _, _, _, _, rfl, s4, f4, t4.mono (by omega), g4.weaken fun x y z => ?_⟩
        rw [take_more er] at z
        rcases List.mem_append.mp z.1 with m | m
        · exact .inl ⟨m, z.2⟩
        · exact .inr ⟨List.mem_singleton.mp m, z.2⟩
    · rintro σ' H5 ⟨_, _, _, _, _, rfl, s5, f5, t5, g5⟩
      have la : (as.map V.ref).length = rs.length := by rw [List.length_map]; exact Paired.length ra
      rw [la] at t5 g5
      rw [List.take_of_length_le (Nat.le_refl _)] at g5
      exact ⟨_, rfl, q d f5 H5 nd1 (t5.mono (by omega)) (g5.done (good_in good) hx fun c hc b hb => ⟨hc, hb⟩) s5⟩
end
end KM

set_option Elab.async false
set_option linter.all false
set_option maxRecDepth 100000
set_option maxHeartbeats 4000000
namespace KM
open PySem PySem.Spec PyProof.Rows L2 GL
open StX (pa_star)
/-! Chains, made -/
theorem oc_walk {P : Program} {w : World} {J : It} {n : Nat} {G : Hp → Prop} {Y : Nat → Hp → V → Hp → Prop} (wk : Walk J n G Y) {D : Addr} {σ : L2.St} {vs : List Nat} {g : TG} {tt : TT} {tk tv : TE} {H2 : Hp} {Q : Hp → Prop} (Pv : Nat → Hp → Prop) (h0 : Pv 0 H2)
    (hG : ∀ i H, i ≤ n → Pv i H → G H) (hs : ∀ i x H H', i < n → Pv i H → Y i H x H' → OcTurn P w D σ vs g tt tk tv x H' (Pv (i + 1))) (hd : ∀ H, Pv n H → Q H) :
    ∃ Wl : Nat → Nat → Hp → Prop, (∃ m, Wl 0 m H2) ∧ ∀ i m H, Wl i m H →
    (J.stop i H ∧ Q H) ∨ (J.go i H ∧ ∃ Nx : Hp → Prop, (∀ H', Nx H' → ∃ m', m' < m ∧ Wl (i + 1) m' H') ∧ ∀ x H', J.yld i H x H' → OcTurn P w D σ vs g tt tk tv x H' Nx) := by
  refine ⟨fun i m H => m = n - i ∧ i ≤ n ∧ Pv i H, ⟨n, by omega, by omega, h0⟩, ?_⟩
  rintro i m H ⟨rfl, hi, p⟩
  by_cases e : i = n
  · subst e
    exact .inl ⟨wk.stops H (hG _ _ hi p), hd H p⟩
  · have lt : i < n := by omega
    exact .inr ⟨wk.goes i H lt (hG _ _ hi p), Pv (i + 1), fun H' p' => ⟨n - (i + 1), by omega, rfl, by omega, p'⟩, fun x H' y => hs i x H H' lt p (wk.yields i H x H' lt (hG _ _ hi p) y)⟩
abbrev nCi : List Str := ["self", "goods", "conditions", "place", "_"]
theorem scCi : FnScope nCi ["self", "goods", "conditions"] (defScope (chm 0)) := ⟨rfl, rfl, rfl, by decide +kernel, rfl, by decide +kernel, by decide +kernel⟩
/-- tables one after another -/
def Tabs (P : Program) (w : World) (H : Hp) (ts : List Addr) (gs : List Str) (rs : List Row) : Prop := ∀ k t, ts[k]? = some t → ∃ f, TabAt P w H t f 200 ∧ KN.Exact rs (pts gs) k f
theorem Tabs.same {P : Program} {w : World} {H H' : Hp} {ts : List Addr} {gs : List Str} {rs : List Row} (h : Tabs P w H ts gs rs) (s : Same H H') : Tabs P w H' ts gs rs := fun k t e => by
  obtain ⟨f, a, b⟩ := h k t e
  exact ⟨f, a.same s, b⟩
/-- Chains as they stand -/
def ChAt (P : Program) (w : World) (D : Addr) (H : Hp) (c : Addr) (gs : List Str) (rs : List Row) : Prop :=
  ∃ pl cs ls ts, ChObj D H c pl cs ls gs rs ∧ H ls = some (.lst (ts.map V.ref)) ∧ ts.length = gs.length + 2 ∧ Tabs P w H ts gs rs
theorem ChAt.same {P : Program} {w : World} {D : Addr} {H H' : Hp} {c : Addr} {gs : List Str} {rs : List Row} (h : ChAt P w D H c gs rs) (s : Same H H') : ChAt P w D H' c gs rs := by
  obtain ⟨pl, cs, ls, ts, a, b, l, t⟩ := h
  exact ⟨pl, cs, ls, ts, a.same s, s _ _ b, l, t.same s⟩
def spCi (P : Program) (w : World) (D : Addr) : Sp := fun vs H Q _ => ∃ (x dx G R : Addr) (gs : List Str) (rs : List Row) (as : List Addr), vs = [.ref x, .ref G, .ref R] ∧ H x = some (.ins D dx []) ∧ H G = some (.lst (gs.map V.str)) ∧ H R = some (.lst (as.map V.ref)) ∧
  RowsIn H as rs ∧ GoodGs gs ∧ GoodRows gs rs ∧ rs.length ≤ 25 ∧ ∀ H', ChAt P w D H' x gs rs → But x H H' → Q .non H'
/-- the first table: 0 from each place to itself -/
def tab0 (l : List Pt) : KN.Tab Pt := fun x y => if x = y ∧ x ∈ l then some 0 else none
theorem tab0_put {l : List Pt} {p : Pt} : (tab0 l).put p p 0 = tab0 (l ++ [p]) := by
  funext x y
  unfold KN.Tab.put tab0
  by_cases e : x = p ∧ y = p
  · obtain ⟨rfl, rfl⟩ := e
    rw [if_pos ⟨rfl, rfl⟩, if_pos ⟨rfl, by simp⟩]
  · rw [if_neg e]
    by_cases q : x = y
    · subst q
      have n : ¬ x = p := fun z => e ⟨z, z⟩
      simp [n]
    · rw [if_neg (fun z => q z.1), if_neg (fun z => q z.1)]
theorem tab0_exact {rs : List Row} {gs : List Str} : KN.Exact rs (pts gs) 0 (tab0 (pts gs)) := .zero fun a b s => by
  unfold tab0
  by_cases q : a = b ∧ a ∈ pts gs
  · rw [if_pos q]
    exact ⟨fun z => ⟨q.2, q.1, (Option.some.inj z).symm⟩, fun z => by rw [z.2.2]⟩
  · rw [if_neg q]
    exact ⟨fun z => (nomatch z), fun z => absurd ⟨z.2.1, z.1⟩ q⟩
section
variable {P : Program} {w : World} {K : PySem.W.Frag} {mg : Str → Option Value} {base : Heap} {D : Addr}
theorem ok_chinit {f : Addr} {fd : FuncData} (F : Fun K "__init__" "Chains.__init__" (chm 0) f fd) (T : Bi mg) (C : Ch K mg D) (LG : HasM P w K mg base D "_longer" 1 ["self", "sums"] (spLg P w D)) :
    FnG P w K mg base CX0 2 f fd ["self", "goods", "conditions"] (spCi P w D) := by
  refine okG F scCi (fun vs H Q E h => ?_) (fun cdv A out s H vs Q E g hr h => ?_)
  · obtain ⟨x, dx, G, R, gs, rs, as, rfl, _⟩ := h
    rfl
  · obtain ⟨x, dx, G, R, gs, rs, as, rfl, hx, hG, hR, rows, GG, good, lr, q⟩ := h
    have hr1 : Room 1 _ := hr
    have l2 := GG.l2
    refine ⟨_, (pss_cons (ps_fld (pv 0) (pe_lstL (pa_cons pe_non (pa_star (pv 1) pa_nil))) rfl)
      (pss_cons (ps_fld (pv 0) (pv 2) rfl)
      (pss_cons (ps_fld (pv 0) (pe_callB call_len_seq (by rfl) T.len PySem.boot_len (pa_cons (pe_fld (pv 0) rfl) pa_nil)) rfl)
      (pss_cons (ps_fld (pv 0) (pe_lstL (pa_cons (pe_oc ⟨rfl, scCi.nd, (pi_list (pe_fld (pv 0) rfl)), blkOk_by (own := [("place", 3)]) (N := nCi) (sc := defScope (chm 0)) (by decide +kernel), (fun _ _ _ _ _ => pg_name (i := 3) scCi.nd rfl (.inl rfl)), (fun _ _ _ _ _ => pts_nil), (fun _ _ _ _ _ => by exact (pe_tupL (pa_cons (pv 3) (pa_cons (pv 3) pa_nil)))), (fun _ _ _ _ _ => by exact pe_int), (fun _ => rfl), hr.units0⟩ starts_p) pa_nil)) rfl)
      (pss_one (ps_for PassesOwn.never rfl (pi_range1 (by rfl) T.range (pa_cons (pe_fld (pv 0) rfl) pa_nil)) (pg_name (i := 4) scCi.nd rfl (.inl rfl))
      (pss_one (ps_expr (pe_bm PySem.F.plainAttrs_list PySem.F.slot_list_append PySem.F.type_list_append mt_appL (pe_fld (pv 0) rfl) (pa_cons (pe_hasM (n := 1) LG C.cl g hr1 rfl (pv 0) (pa_cons (pe_ix ix_list (pe_fld (pv 0) rfl) (pe_un un_neg pe_int) (fun _ _ => rfl)) pa_nil)) pa_nil)))))))))), ?_⟩
    -- places
    refine ⟨_, rfl, G, _, rfl, .inr (SqL.of hG), by rw [List.length_cons, List.length_append, List.length_map]; exact Nat.le_of_lt (small1000 (by show gs.length + 0 + 1 ≤ 1000; omega)), fun pl H1 n1 e1 s1 => ?_⟩
    have hx1 := s1 _ _ hx
    have npx : pl ≠ x := ne_some n1 hx
    have ePl : V.non :: (gs.map V.str ++ []) = (pts gs).map oV := by
      rw [List.append_nil]
      unfold pts
      rw [List.map_cons, List.map_map]
      rfl
    rw [ePl] at e1
    refine ⟨_, rfl, x, D, dx, _, rfl, hx1, C.cl, C.nP, by show 0 < 1000; decide, ?_⟩
    refine mk_upd fun H2 x2 b2 => ?_
    refine ⟨_, rfl, _, rfl, x, D, dx, _, rfl, x2, C.cl, C.nK, by show 1 < 1000; decide, ?_⟩
    refine mk_upd fun H3 x3 b3 => ?_
    have b13 : But x H H3 := ((But.of s1).trans b2).trans b3
    have ep3 : H3 pl = some (.lst ((pts gs).map oV)) := b3 _ _ npx (b2 _ _ npx e1)
    refine ⟨_, rfl, x, D, dx, _, _, rfl, x3, C.cl, C.nP, by rw [lookup_putF, if_neg (by decide), lookup_putF, if_pos rfl], pl, _, rfl, .inl (SqL.of ep3), ?_⟩
    refine ⟨_, rfl, x, D, dx, _, rfl, x3, C.cl, C.nM, by show 2 < 1000; decide, ?_⟩
    refine mk_upd fun H4 x4 b4 => ?_
    have ln : ((pts gs).map oV).length = gs.length + 1 := by rw [List.length_map, pts_len]
    rw [ln] at x4
    have b14 : But x H H4 := b13.trans b4
    have ep4 := b4 _ _ npx ep3
    refine ⟨_, rfl, x, D, dx, _, _, rfl, x4, C.cl, C.nP, by rw [lookup_putF, if_neg (by decide), lookup_putF, if_neg (by decide), lookup_putF, if_pos rfl], pl, rfl, ⟨_, SqL.of ep4⟩, ?_⟩
    intro t0 H5 n5 e5 s5
    refine oc_walk (walk_list (K := K) (a := pl) (xs := (pts gs).map oV)) (fun i H' => Same H4 H' ∧ TabAt P w H' t0 (tab0 ((pts gs).take i)) i) ⟨s5, [], ⟨[], e5, rfl, fun _ z => nomatch z⟩, ?_⟩ (fun i H' _ ⟨z, _⟩ => SqL.of (z _ _ ep4)) ?_ ?_
    · have z : tab0 ((pts gs).take 0) = fun _ _ => none := by
        funext u v
        exact if_neg fun z => by simp at z
      rw [z]
      exact TabK.empty
    · rintro i y H6 H7 hi ⟨s6, t6⟩ ⟨rfl, hy⟩
      obtain ⟨p, hp, rfl⟩ := oV_at hy
      rw [ln] at hi
      refine ⟨rfl, yes_go ?_⟩
      refine ⟨_, rfl, _, rfl, by show 2 ≤ sizeLine; decide, fun t1 H8 n8 e8 s8 => ?_⟩
      refine (t6.same s8).put e8 (by omega) fun H9 t9 b9 => ⟨same_but (s6.trans s8) b9 n5, ?_⟩
      rw [take_more hp, ← tab0_put]
      exact t9
    rintro H6 ⟨s6, t6⟩
    rw [ln, ← pts_len, List.take_length, pts_len] at t6
    refine ⟨by show 1 ≤ sizeLine; decide, fun ls H7 n7 e7 s7 => ?_⟩
    have s47 := s6.trans s7
    refine ⟨_, rfl, x, D, dx, _, rfl, s47 _ _ x4, C.cl, C.nS, by show 3 < 1000; decide, ?_⟩
    refine mk_upd fun H8 x8 b8 => ?_
    have x8 : H8 x = some (.ins D dx (cfl pl R (gs.length + 1 : Nat) ls)) := x8
    have nls : ls ≠ x := ne_some n7 (s6 _ _ x4)
    have e8 := b8 _ _ nls e7
    have b18 : But x H H8 := (b14.trans (But.of s47)).trans b8
    have ho : ChObj D H8 x pl R ls gs rs := by
      refine ⟨⟨dx, x8⟩, b8 _ _ npx (s47 _ _ ep4), as, b18 _ _ (ne_of hR hx (by intro z; cases z)) hR, ?_⟩
      exact rows_keep rows fun t xs e => b18 _ _ (ne_of e hx (by intro z; cases z)) e
    have t8 : TabAt P w H8 t0 (tab0 (pts gs)) (gs.length + 1) := by
      obtain ⟨kvs, pd, kk⟩ := t6.same s7
      exact ⟨kvs, pd_but pd b8 (fun z => by
        obtain ⟨xs, e, _⟩ := pd
        rw [z, s47 _ _ x4] at e
        cases e) (s47 _ _ x4) (fun ys z => by cases z), kk⟩
    have nls0 : H ls = none := by
      cases z : H ls with
      | none => rfl
      | some o =>
        by_cases e : ls = x
        · exact absurd e nls
        · have := s6 _ _ (b14 _ _ e z)
          rw [n7] at this
          cases this
    have t08 : Tabs P w H8 [t0] gs rs := fun k t e => by
      cases k with
      | zero =>
        have e : t0 = t := by simpa using e
        subst e
        exact ⟨_, t8.mono (by omega), tab0_exact⟩
      | succ k => simp at e
    refine ⟨_, rfl, x, D, dx, _, _, rfl, x8, C.cl, C.nM, cfl_m, _, rfl, by omega, by omega, ?_⟩
    refine for_range (n := ((gs.length + 1 : Nat) : Int).toNat) (fun i σ' H' => ∃ p3 p4, σ' = [some (.ref x), some (.ref G), some (.ref R), p3, p4] ∧ ChObj D H' x pl R ls gs rs ∧ But x H H' ∧ ∃ ts : List Addr, H' ls = some (.lst (ts.map V.ref)) ∧ ts.length = i + 1 ∧ Tabs P w H' ts gs rs) ?_ ?_ ?_
    · exact ⟨_, _, rfl, ho, b18, [t0], e8, rfl, t08⟩
    · rintro i σ' H9 hi ⟨_, _, rfl, ho9, b9, ts, els, lts, tt⟩
      obtain ⟨ts0, t, rfl⟩ : ∃ ts0 t, ts = ts0 ++ [t] := ⟨ts.dropLast, ts.getLast (by intro z; rw [z] at lts; simp at lts), (List.dropLast_concat_getLast _).symm⟩
      have l0 : ts0.length = i := by simpa using lts
      obtain ⟨dx9, eo9⟩ := ho9.ob
      obtain ⟨f9, ta9, xa9⟩ := tt i t (by rw [← l0]; simp)
      refine ⟨_, rfl, x, D, dx9, _, _, rfl, eo9, C.cl, C.nS, cfl_s, .inl ⟨rfl, _, SqL.of els⟩, ?_⟩
      refine ⟨_, rfl, x, dx9, _, rfl, eo9, cfl_o (by decide +kernel) (by decide +kernel) (by decide +kernel) (by decide +kernel), ?_⟩
      refine ⟨_, rfl, x, D, dx9, _, _, rfl, eo9, C.cl, C.nS, cfl_s, 1, rfl, ls, _, -1, .ref t, rfl, rfl, SqL.of els, by rw [List.map_append]; exact atI_last _ _, rfl, rfl, ?_⟩
      refine ⟨x, t, pl, R, ls, gs, rs, i, f9, rfl, ho9, l2, good, lr, ta9, xa9, fun d f' H10 nd td xd sd => ?_⟩
      refine ⟨ls, _, .ref d, rfl, rfl, sd _ _ els, by rw [List.length_map]; exact small1000 (by omega), fun H11 e11 b11 => ?_⟩
      refine ⟨_, _, rfl, ?_, ?_, ts0 ++ [t] ++ [d], by rw [e11]; simp, by simp; omega, ?_⟩
      · obtain ⟨⟨dy, o1⟩, o2, as', o3, o4⟩ := ho9.same sd
        have nn : ∀ {a : Addr} {o : HO}, H10 a = some o → (∀ ts : List Addr, o ≠ .lst (ts.map V.ref)) → H11 a = some o := fun {a o} e no => b11 _ _ (ne_of e (sd _ _ els) (no _)) e
        have rR : R ≠ ls := fun z => by rw [z] at hR; rw [nls0] at hR; cases hR
        refine ⟨⟨dy, nn o1 fun _ z => by cases z⟩, nn o2 fun ts z => ?_, as', b11 _ _ rR o3, rows_keep o4 fun t xs e => nn e fun _ z => by cases z⟩
        have z := HO.lst.inj z
        cases ts with
        | nil => cases z
        | cons u v => cases z
      · exact fun a o na e => b11 _ _ (ne_of_none e nls0) (sd _ _ (b9 _ _ na e))
      · intro k u e
        by_cases c : k < (ts0 ++ [t]).length
        · rw [List.getElem?_append_left c] at e
          obtain ⟨f, a, b⟩ := tt k u e
          exact ⟨f, (a.same sd).lst b11 (sd _ _ els), b⟩
        · have c2 : k = (ts0 ++ [t]).length := by
            have := (List.getElem?_eq_some_iff.mp e).1
            simp at this c ⊢
            omega
          subst c2
          have e : d = u := by simpa using e
          subst e
          refine ⟨f', td.lst b11 (sd _ _ els), ?_⟩
          have z : (ts0 ++ [t]).length = i + 1 := by simp [l0]
          rw [z]
          exact xd
    · rintro σ' H9 ⟨_, _, rfl, ho9, b9, ts, els, lts, tt⟩
      exact q H9 ⟨pl, R, ls, ts, ho9, els, by rw [lts]; rfl, tt⟩ b9
end
end KM

set_option Elab.async false
set_option linter.all false
set_option maxRecDepth 100000
set_option maxHeartbeats 4000000
namespace KM
open PySem PySem.Spec PyProof.Rows L2 GL
/-! whether there is a ring -/
abbrev nLl : List Str := ["self", "ends", "many", "most_sum", "place", "last", "told", "total", "left", "position", "one", "other", "most"]
abbrev nRg : List Str := ["self", "many", "position", "one", "other", "most"]
theorem scLl : FnScope nLl ["self", "ends", "many", "most_sum"] (defScope (chm 6)) := ⟨rfl, rfl, rfl, by decide +kernel, rfl, by decide +kernel, by decide +kernel⟩
theorem scRg : FnScope nRg ["self"] (defScope (chm 3)) := ⟨rfl, rfl, rfl, by decide +kernel, rfl, by decide +kernel, by decide +kernel⟩
theorem scHr : FnScope ["self"] ["self"] (defScope (chm 2)) := ⟨rfl, rfl, rfl, by decide +kernel, rfl, by decide +kernel, by decide +kernel⟩
/-- goods and conditions of Chains -/
structure CFit (gs : List Str) (rs : List Row) : Prop where
  g : GoodGs gs
  r : GoodRows gs rs
  n : rs.length ≤ 25
def spLl (P : Program) (w : World) (D : Addr) : Sp := fun vs H Q _ => ∃ (c t : Addr) (gs : List Str) (rs : List Row) (p l : Pt) (m : Nat) (z : Int), vs = [.ref c, .ref t, .int (m : Nat), .int z] ∧ ChAt P w D H c gs rs ∧ CFit gs rs ∧ H t = some (.tup [oV p, oV l]) ∧ p ∈ pts gs ∧
  m ≤ gs.length + 1 ∧ ∀ L H', Same H H' → Q (.ref L) H'
theorem pts_ok {gs : List Str} {p : Pt} (h : p ∈ pts gs) : ∀ x, p = some x → x ∈ gs := by
  rintro x rfl
  rcases List.mem_cons.mp h with e | h
  · cases e
  · obtain ⟨y, hy, e⟩ := List.mem_map.mp h
    cases e
    exact hy
/-- the table at a place of the list, and whether it has a sum -/
theorem tab_at {P : Program} {w : World} {H : Hp} {ts : List Addr} {gs : List Str} {rs : List Row} (tt : Tabs P w H ts gs rs) {k : Nat} (hk : k < ts.length) : ∃ t f, ts[k]? = some t ∧ TabAt P w H t f 200 ∧ KN.Exact rs (pts gs) k f := by
  obtain ⟨f, a, b⟩ := tt k ts[k] (List.getElem?_eq_getElem hk)
  exact ⟨_, f, List.getElem?_eq_getElem hk, a, b⟩
theorem atI_map {ts : List Addr} {k : Nat} {t : Addr} (h : ts[k]? = some t) : atI (ts.map V.ref) ((k : Nat) : Int) = some (.ref t) := by
  obtain ⟨hk, e⟩ := List.getElem?_eq_some_iff.mp h
  unfold atI ixN
  rw [if_pos (by omega), if_pos (by rw [List.length_map]; omega)]
  simp [h]
section
variable {P : Program} {w : World} {K : PySem.W.Frag} {mg : Str → Option Value} {base : Heap} {D : Addr}
theorem ok_ll {f : Addr} {fd : FuncData} (F : Fun K "_least_list" "Chains._least_list" (chm 6) f fd) (T : Bi mg) (C : Ch K mg D) :
    FnG P w K mg base CX0 1 f fd ["self", "ends", "many", "most_sum"] (spLl P w D) := by
  refine okG F scLl (fun vs H Q E h => ?_) (fun cdv A out s H vs Q E g hr h => ?_)
  · obtain ⟨c, t, gs, rs, p, l, m, z, rfl, _⟩ := h
    rfl
  · obtain ⟨c, t, gs, rs, p, l, m, z, rfl, ⟨pl, cs, ls, ts, ho, els, lts, tt⟩, fit, et, hp, hm, q⟩ := h
    obtain ⟨dx, eo⟩ := ho.ob
    obtain ⟨as, ec, ra⟩ := ho.cs
    have hu := hr.units
    have l2 := fit.g.l2
    have lr := fit.n
    have la : (as.map V.ref).length = rs.length := by rw [List.length_map]; exact Paired.length ra
    refine ⟨_, (pss_cons (ps_asg (pv 1) (pg_tup rfl (pgs_cons (pg_name (i := 4) scLl.nd rfl (.inl rfl)) (pgs_cons (pg_name (i := 5) scLl.nd rfl (.inl rfl)) pgs_nil))))
      (pss_cons (ps_par (i := 6) (j := 7) (by rfl) scLl.nd rfl rfl (by decide) rfl rfl (pa_cons (pe_lstL pa_nil) (pa_cons pe_int pa_nil)) (by rfl))
      (pss_cons (ps_for PassesOwn.never rfl (pi_revR (by rfl) T.reversed (prg_1 (by rfl) T.range (pv 2))) (pg_name (i := 8) scLl.nd rfl (.inl rfl))
      (pss_one (ps_for PassesOwn.never rfl (pi_enumA (by rfl) T.enumerate (pa_cons (pe_fld (pv 0) rfl) pa_nil)) (pg_tup rfl (pgs_cons (pg_name (i := 9) scLl.nd rfl (.inl rfl)) (pgs_cons (pg_tup rfl (pgs_cons (pg_name (i := 10) scLl.nd rfl (.inl rfl)) (pgs_cons (pg_name (i := 11) scLl.nd rfl (.inl rfl)) (pgs_cons (pg_name (i := 12) scLl.nd rfl (.inl rfl)) pgs_nil)))) pgs_nil)))
      (pss_one (ps_if (PW.pt (pw_and (pt_cmpR op_lt (pe_op op_add (pe_callB call_len_seq (by rfl) T.len PySem.boot_len (pa_cons (pv 6) pa_nil)) (pv 8)) (pv 2) (nomark _)) (pw_and (pt_cmpR (op_eqD hu) (pv 10) (pv 4) (nomark _)) (pw_and1 (pt_cmp (pc_oin (by have := hr.units; exact Nat.lt_of_le_of_lt (Nat.add_le_add_left (by decide) _) this) (pe_tupL (pa_cons (pv 11) (pa_cons (pv 5) pa_nil))) (pe_ix ix_list (pe_fld (pv 0) rfl) (pv 8) (fun _ _ => rfl)))))))) (pss_one (ps_if (pt_cmpR op_le (pe_op op_add (pe_op op_add (pv 7) (pv 12)) (pe_oget (by have := hr.units; exact Nat.lt_of_le_of_lt (Nat.add_le_add_left (by decide) _) this) (pe_ix ix_list (pe_fld (pv 0) rfl) (pv 8) (fun _ _ => rfl)) (pe_tupL (pa_cons (pv 11) (pa_cons (pv 5) pa_nil))) (fun _ _ => rfl))) (pv 3) (nomark _)) (pss_cons (ps_expr (pe_bm PySem.F.plainAttrs_list PySem.F.slot_list_append PySem.F.type_list_append mt_appL (pv 6) (pa_cons (pv 9) pa_nil)))
      (pss_one (ps_par (i := 4) (j := 7) (by rfl) scLl.nd rfl rfl (by decide) rfl rfl (pa_cons (pv 11) (pa_cons (pe_op op_add (pv 7) (pv 12)) pa_nil)) (by rfl)))) pss_nil)) pss_nil)))))
      (pss_one (ps_ret (pv 6)))))), ?_⟩
    refine ⟨_, rfl, t, _, rfl, SqT.of et, rfl, _, _, rfl, _, _, rfl, rfl, ?_⟩
    refine ⟨by show 0 ≤ sizeLine; decide, fun L H1 nL eL s1 => ⟨_, _, rfl, ?_⟩⟩
    refine ⟨_, rfl, m, rfl, by omega, by omega, by omega, by omega, ?_⟩
    refine for_rangeC (n := ((m : Int) - 0).toNat) (fun i σ' H' => ∃ (p' : Pt) (tot : Int) (x8 x9 x10 x11 x12 : Option V) (xs : List V), σ' = [some (.ref c), some (.ref t), some (.int (m : Nat)), some (.int z), some (oV p'), some (oV l), some (.ref L), some (.int tot), x8, x9, x10, x11, x12] ∧
      p' ∈ pts gs ∧ H' L = some (.lst xs) ∧ xs.length ≤ i * 25 ∧ Same H H') ?_ ?_ ?_
    · exact ⟨p, 0, _, _, _, _, _, [], rfl, hp, eL, Nat.le_refl _, s1⟩
    · rintro i σ' H2 hi ⟨p', tot, x8, x9, x10, x11, x12, xs, rfl, hp', eL2, lx, s2⟩
      refine ⟨_, rfl, c, D, dx, _, _, rfl, s2 _ _ eo, C.cl, C.nK, cfl_c, cs, as.map V.ref, rfl, ?_⟩
      have hil : i < m := by omega
      obtain ⟨tk, fk, hk, tak, _⟩ := tab_at tt (k := m - 1 - i) (by omega)
      refine for_enum (H0 := H) (K := K) (.inl (SqL.of ec)) s2 (fun j σ' H' => ∃ (p' : Pt) (tot : Int) (x9 x10 x11 x12 : Option V) (xs : List V), σ' = [some (.ref c), some (.ref t), some (.int (m : Nat)), some (.int z), some (oV p'), some (oV l), some (.ref L), some (.int tot), some (.int ((m - 1 - i : Nat) : Int)), x9, x10, x11, x12] ∧
        p' ∈ pts gs ∧ H' L = some (.lst xs) ∧ xs.length ≤ i * 25 + j ∧ Same H H') ?_ ?_ ?_ ?_
      · refine ⟨p', tot, x9, x10, x11, x12, xs, ?_, hp', eL2, lx, s2⟩
        have e : (0 : Int) + (((m : Int) - 0).toNat : Nat) - 1 + (i : Nat) * (-1) = ((m - 1 - i : Nat) : Int) := by omega
        rw [← e]
        rfl
      · rintro j σ' H' ⟨_, _, _, _, _, _, _, rfl, _, _, _, s3⟩
        exact s3
      · rintro j x σ' H3 H4 hj ⟨p3, tot3, _, _, _, _, xs3, rfl, hp3, eL3, lx3, s3⟩ ⟨Tp, y, rfl, nT, rfl, hy⟩
        obtain ⟨tr, r, rfl, er, et3⟩ := rows_at (rows_same ra s3) hy
        have hT : Same H3 (upd H3 Tp (.tup [.int (j : Nat), .ref tr])) := same_new (Same.refl' _) nT
        have s4 := s3.trans hT
        have eL4 := hT _ _ eL3
        have eT : (upd H3 Tp (.tup [.int (j : Nat), .ref tr])) Tp = some (.tup [.int (j : Nat), .ref tr]) := upd_same
        have et4 := hT _ _ et3
        generalize upd H3 Tp (.tup [.int (j : Nat), .ref tr]) = H4 at hT s4 eL4 eT et4
        have gr := fit.r r (List.mem_of_getElem? er)
        have pr1 := in_pts gr.one
        have pr2 := in_pts gr.two
        have nx0 : ∀ H', Same H4 H' → ∃ (p' : Pt) (tot : Int) (x9 x10 x11 x12 : Option V) (xs : List V), [some (.ref c), some (.ref t), some (.int (m : Nat)), some (.int z), some (oV p3), some (oV l), some (.ref L), some (.int tot3), some (.int ((m - 1 - i : Nat) : Int)), some (.int (j : Nat)), some (oV r.1), some (oV r.2.1), some (.int r.2.2)] =
            [some (.ref c), some (.ref t), some (.int (m : Nat)), some (.int z), some (oV p'), some (oV l), some (.ref L), some (.int tot), some (.int ((m - 1 - i : Nat) : Int)), x9, x10, x11, x12] ∧ p' ∈ pts gs ∧ H' L = some (.lst xs) ∧ xs.length ≤ i * 25 + (j + 1) ∧ Same H H' :=
          fun H' s' => ⟨p3, tot3, _, _, _, _, xs3, rfl, hp3, s' _ _ eL4, by omega, s4.trans s'⟩
        have jlt : j < rs.length := by rw [la] at hj; exact hj
        have ilt : i < 5 := by omega
        have szl := sizeLine_eq
        refine ⟨Tp, _, rfl, SqT.of eT, rfl, _, _, rfl, _, _, rfl, tr, _, rfl, SqT.of et4, rfl, _, _, rfl, _, _, rfl, _, _, rfl, rfl, rfl, ?_⟩
        refine ⟨_, rfl, L, _, rfl, .inl (SqL.of eL4), _, rfl, _, _, rfl, rfl, _, rfl, _, _, rfl, rfl, _, rfl, ?_⟩
        refine ite2 (fun _ => ?_) (fun _ => iteF (nx0 _ (Same.refl' _)))
        refine ⟨_, rfl, _, rfl, oD r.1, oD p3, dp_o _, dp_o _, shaped_o fit.g _ gr.one, shaped_o fit.g _ (pts_ok hp3), _, rfl, ?_⟩
        refine ite2 (fun _ => ?_) (fun _ => iteF (nx0 _ (Same.refl' _)))
        refine ⟨_, rfl, _, rfl, by show 2 ≤ sizeLine; decide, fun t1 H5 n5 e5 s5 => ?_⟩
        have S5 := s4.trans s5
        refine ⟨_, rfl, c, D, dx, _, _, rfl, S5 _ _ eo, C.cl, C.nS, cfl_s, _, rfl, ls, _, _, _, rfl, rfl, SqL.of (S5 _ _ els), atI_map hk, ?_⟩
        refine ⟨tk, _, rfl, (tak.same S5).get e5, _, rfl, ?_⟩
        cases hf : fk r.2.1 l with
        | none => exact iteF (nx0 _ s5)
        | some s0 =>
          refine iteT ?_
          refine ⟨_, rfl, _, rfl, _, _, rfl, rfl, _, rfl, c, D, dx, _, _, rfl, S5 _ _ eo, C.cl, C.nS, cfl_s, _, rfl, ls, _, _, _, rfl, rfl, SqL.of (S5 _ _ els), atI_map hk, ?_⟩
          refine ⟨_, rfl, _, rfl, by show 2 ≤ sizeLine; decide, fun t2 H6 n6 e6 s6 => ?_⟩
          have S6 := S5.trans s6
          refine ⟨tk, _, rfl, by rw [← show ((some s0 : Option Int).map V.int) = some (V.int s0) from rfl, ← hf]; exact (tak.same S6).get e6, _, _, rfl, rfl, _, rfl, _, _, rfl, rfl, _, rfl, ?_⟩
          refine ite2 (fun _ => ?_) (fun _ => nx0 _ (s5.trans s6))
          have eL6 := s6 _ _ (s5 _ _ eL4)
          refine ⟨_, rfl, .inl ⟨rfl, _, SqL.of eL6⟩, _, rfl, L, xs3, .int (j : Nat), rfl, rfl, eL6, small1000 (by omega), fun H7 e7 b7 => ?_⟩
          refine ⟨_, rfl, _, rfl, _, rfl, _, _, rfl, rfl, _, _, rfl, ?_⟩
          exact ⟨r.2.1, tot3 + r.2.2, _, _, _, _, _, rfl, pr2, e7, by rw [List.length_append]; show xs3.length + 1 ≤ _; omega, same_but S6 b7 nL⟩
      · rintro σ' H3 ⟨p3, tot3, _, _, _, _, xs3, rfl, hp3, eL3, lx3, s3⟩
        exact ⟨p3, tot3, _, _, _, _, _, xs3, rfl, hp3, eL3, by rw [la] at lx3; omega, s3⟩
    · rintro σ' H2 ⟨p', tot, _, _, _, _, _, xs, rfl, hp', eL2, lx, s2⟩
      exact ⟨_, rfl, q L H2 s2⟩
theorem tabs_fun {H : Hp} {ts : List Addr} {gs : List Str} {rs : List Row} (tt : Tabs P w H ts gs rs) : ∃ F : Nat → KN.Tab Pt, ∀ k t, ts[k]? = some t → TabAt P w H t (F k) 200 ∧ KN.Exact rs (pts gs) k (F k) := by
  classical
  refine ⟨fun k => if h : k < ts.length then Classical.choose (tt k ts[k] (List.getElem?_eq_getElem h)) else fun _ _ => none, fun k t e => ?_⟩
  obtain ⟨hk, e'⟩ := List.getElem?_eq_some_iff.mp e
  subst e'
  have z := Classical.choose_spec (tt k ts[k] (List.getElem?_eq_getElem hk))
  dsimp only
  rw [dif_pos hk]
  exact z
def spRg (P : Program) (w : World) (D : Addr) : Sp := fun vs H Q _ => ∃ (c : Addr) (gs : List Str) (rs : List Row), vs = [.ref c] ∧ ChAt P w D H c gs rs ∧ CFit gs rs ∧ (KN.Ring rs → ∀ L H', Same H H' → Q (.ref L) H') ∧ (¬ KN.Ring rs → ∀ H', Same H H' → Q .non H')
def spHr (P : Program) (w : World) (D : Addr) : Sp := fun vs H Q _ => ∃ (c : Addr) (gs : List Str) (rs : List Row), vs = [.ref c] ∧ ChAt P w D H c gs rs ∧ CFit gs rs ∧ (KN.Ring rs → ∀ H', Same H H' → Q (.bl true) H') ∧ (¬ KN.Ring rs → ∀ H', Same H H' → Q (.bl false) H')
theorem ok_ring {f : Addr} {fd : FuncData} (F : Fun K "ring" "Chains.ring" (chm 3) f fd) (T : Bi mg) (C : Ch K mg D) (LL : HasM P w K mg base D "_least_list" 1 ["self", "ends", "many", "most_sum"] (spLl P w D)) :
    FnG P w K mg base CX0 2 f fd ["self"] (spRg P w D) := by
  refine okG F scRg (fun vs H Q E h => ?_) (fun cdv A out s H vs Q E g hr h => ?_)
  · obtain ⟨c, gs, rs, rfl, _⟩ := h
    rfl
  · obtain ⟨c, gs, rs, rfl, ch, fit, qy, qn⟩ := h
    obtain ⟨pl, cs, ls, ts, ho, els, lts, tt⟩ := id ch
    obtain ⟨dx, eo⟩ := ho.ob
    obtain ⟨as, ec, ra⟩ := ho.cs
    obtain ⟨Fn, hF⟩ := tabs_fun tt
    have hr1 : Room 1 _ := hr
    have hu := hr.units
    have l2 := fit.g.l2
    have la : (as.map V.ref).length = rs.length := by rw [List.length_map]; exact Paired.length ra
    have ex : ∀ k, k ≤ (pts gs).length → KN.Exact rs (pts gs) k (Fn k) := fun k hk => by
      rw [pts_len] at hk
      exact (hF k ts[k] (List.getElem?_eq_getElem (by omega))).2
    have rif := KN.ring_iff (good_in fit.r) Fn ex
    rw [pts_len] at rif
    refine ⟨_, (pss_cons (ps_for PassesOwn.never rfl (pi_range2 (by rfl) T.range (pa_cons pe_int (pa_cons (pe_op op_add (pe_fld (pv 0) rfl) pe_int) pa_nil))) (pg_name (i := 1) scRg.nd rfl (.inl rfl))
      (pss_one (ps_for PassesOwn.never rfl (pi_enumA (by rfl) T.enumerate (pa_cons (pe_fld (pv 0) rfl) pa_nil)) (pg_tup rfl (pgs_cons (pg_name (i := 2) scRg.nd rfl (.inl rfl)) (pgs_cons (pg_tup rfl (pgs_cons (pg_name (i := 3) scRg.nd rfl (.inl rfl)) (pgs_cons (pg_name (i := 4) scRg.nd rfl (.inl rfl)) (pgs_cons (pg_name (i := 5) scRg.nd rfl (.inl rfl)) pgs_nil)))) pgs_nil)))
      (pss_one (ps_if (PW.pt (pw_and (pt_cmp (pc_oin (by have := hr.units; exact Nat.lt_of_le_of_lt (Nat.add_le_add_left (by decide) _) this) (pe_tupL (pa_cons (pv 4) (pa_cons (pv 3) pa_nil))) (pe_ix ix_list (pe_fld (pv 0) rfl) (pe_op op_sub (pv 1) pe_int) (fun _ _ => rfl)))) (pw_and1 (pt_cmpR op_lt (pe_op op_add (pv 5) (pe_oget (by have := hr.units; exact Nat.lt_of_le_of_lt (Nat.add_le_add_left (by decide) _) this) (pe_ix ix_list (pe_fld (pv 0) rfl) (pe_op op_sub (pv 1) pe_int) (fun _ _ => rfl)) (pe_tupL (pa_cons (pv 4) (pa_cons (pv 3) pa_nil))) (fun _ _ => rfl))) pe_int (nomark _))))) (pss_one (ps_ret (pe_hasM (n := 3) LL C.cl g hr1 rfl (pv 0) (pa_cons (pe_tupL (pa_cons (pv 3) (pa_cons (pv 3) pa_nil))) (pa_cons (pv 1) (pa_cons (pe_un un_neg pe_int) pa_nil)))))) pss_nil)))))
      (pss_one (ps_ret pe_non))), ?_⟩
    refine ⟨_, rfl, c, D, dx, _, _, rfl, eo, C.cl, C.nM, cfl_m, _, _, rfl, rfl, 1, _, rfl, ⟨by omega, by omega, by omega, by omega⟩, ?_⟩
    refine for_range (lo := 1) (n := (((gs.length + 1 : Nat) : Int) + 1 - 1).toNat) (fun i σ' H' => ∃ (x1 x2 x3 x4 x5 : Option V), σ' = [some (.ref c), x1, x2, x3, x4, x5] ∧ Same H H' ∧ ∀ k, k < i → ∀ a d m t, (a, d, m) ∈ rs → Fn k d a = some t → ¬ m + t < 0) ?_ ?_ ?_
    · exact ⟨_, _, _, _, _, rfl, Same.refl' _, fun k hk => by omega⟩
    · rintro i σ' H2 hi ⟨x1, x2, x3, x4, x5, rfl, s2, no⟩
      have hi5 : i < gs.length + 1 := by omega
      have hts : i < ts.length := by omega
      have hk : ts[i]? = some ts[i] := List.getElem?_eq_getElem hts
      obtain ⟨tak, _⟩ := hF i _ hk
      generalize ts[i] = tk at hk tak
      refine ⟨_, rfl, c, D, dx, _, _, rfl, s2 _ _ eo, C.cl, C.nK, cfl_c, cs, as.map V.ref, rfl, ?_⟩
      refine for_enum (H0 := H) (K := K) (.inl (SqL.of ec)) s2 (fun j σ' H' => ∃ (x2 x3 x4 x5 : Option V), σ' = [some (.ref c), some (.int (1 + (i : Nat))), x2, x3, x4, x5] ∧ Same H H' ∧ ∀ a d m t, (a, d, m) ∈ rs.take j → Fn i d a = some t → ¬ m + t < 0) ?_ ?_ ?_ ?_
      · exact ⟨x2, x3, x4, x5, rfl, s2, fun a d m t h => by simp at h⟩
      · rintro j σ' H' ⟨_, _, _, _, rfl, s3, _⟩
        exact s3
      · rintro j x σ' H3 H4 hj ⟨_, _, _, _, rfl, s3, no3⟩ ⟨Tp, y, rfl, nT, rfl, hy⟩
        obtain ⟨tr, r, rfl, er, et3⟩ := rows_at (rows_same ra s3) hy
        have hT : Same H3 (upd H3 Tp (.tup [.int (j : Nat), .ref tr])) := same_new (Same.refl' _) nT
        have s4 := s3.trans hT
        have eT : (upd H3 Tp (.tup [.int (j : Nat), .ref tr])) Tp = some (.tup [.int (j : Nat), .ref tr]) := upd_same
        have et4 := hT _ _ et3
        generalize upd H3 Tp (.tup [.int (j : Nat), .ref tr]) = H4 at hT s4 eT et4
        have gr := fit.r r (List.mem_of_getElem? er)
        have szl := sizeLine_eq
        have e1 : (1 : Int) + (i : Nat) - 1 = (i : Nat) := by omega
        have more : (∀ t, Fn i r.2.1 r.1 = some t → ¬ r.2.2 + t < 0) → ∀ a d m t, (a, d, m) ∈ rs.take (j + 1) → Fn i d a = some t → ¬ m + t < 0 := by
          intro h a d m t hm ht
          rw [take_more er] at hm
          rcases List.mem_append.mp hm with hm | hm
          · exact no3 a d m t hm ht
          · have e := List.mem_singleton.mp hm
            subst e
            exact h t ht
        refine ⟨Tp, _, rfl, SqT.of eT, rfl, _, _, rfl, _, _, rfl, tr, _, rfl, SqT.of et4, rfl, _, _, rfl, _, _, rfl, _, _, rfl, rfl, rfl, ?_⟩
        refine ⟨_, rfl, _, rfl, by show 2 ≤ sizeLine; decide, fun t1 H5 n5 e5 s5 => ?_⟩
        have S5 := s4.trans s5
        refine ⟨_, rfl, c, D, dx, _, _, rfl, S5 _ _ eo, C.cl, C.nS, cfl_s, _, rfl, _, _, rfl, rfl, ls, _, _, _, rfl, rfl, SqL.of (S5 _ _ els), by rw [e1]; exact atI_map hk, ?_⟩
        refine ⟨tk, _, rfl, (tak.same S5).get e5, _, rfl, ?_⟩
        cases hf : Fn i r.2.1 r.1 with
        | none => exact iteF (iteF ⟨_, _, _, _, rfl, S5, more fun t e => by rw [hf] at e; cases e⟩)
        | some s0 =>
          refine iteT ?_
          refine ⟨_, rfl, _, rfl, c, D, dx, _, _, rfl, S5 _ _ eo, C.cl, C.nS, cfl_s, _, rfl, _, _, rfl, rfl, ls, _, _, _, rfl, rfl, SqL.of (S5 _ _ els), by rw [e1]; exact atI_map hk, ?_⟩
          refine ⟨_, rfl, _, rfl, by show 2 ≤ sizeLine; decide, fun t2 H6 n6 e6 s6 => ?_⟩
          have S6 := S5.trans s6
          refine ⟨tk, _, rfl, by rw [← show ((some s0 : Option Int).map V.int) = some (V.int s0) from rfl, ← hf]; exact (tak.same S6).get e6, _, _, rfl, rfl, _, _, rfl, rfl, _, rfl, ?_⟩
          refine ite2 (fun c0 => ?_) (fun c0 => ⟨_, _, _, _, rfl, S6, more fun t e => by rw [hf] at e; cases e; exact fun z => c0 (decide_eq_true z)⟩)
          have hring : KN.Ring rs := rif.mpr ⟨i, hi5, r.1, r.2.1, r.2.2, s0, List.mem_of_getElem? er, hf, of_decide_eq_true c0⟩
          refine ⟨_, rfl, c, dx, _, rfl, S6 _ _ eo, cfl_o (by decide +kernel) (by decide +kernel) (by decide +kernel) (by decide +kernel), ?_⟩
          refine ⟨_, rfl, _, rfl, by show 2 ≤ sizeLine; decide, fun t3 H7 n7 e7 s7 => ?_⟩
          have S7 := S6.trans s7
          refine ⟨_, rfl, _, rfl, rfl, rfl, c, t3, gs, rs, r.1, r.1, i + 1, -1, ?_, ch.same S7, fit, e7, in_pts gr.one, by omega, fun L H8 s8 => qy hring L H8 (S7.trans s8)⟩
          have e2 : (1 : Int) + (i : Nat) = ((i + 1 : Nat) : Int) := by omega
          rw [← e2]
      · rintro σ' H3 ⟨x2, x3, x4, x5, rfl, s3, no3⟩
        rw [la, List.take_of_length_le (Nat.le_refl _)] at no3
        refine ⟨_, x2, x3, x4, x5, rfl, s3, fun k hk a d m t hm ht => ?_⟩
        by_cases e : k < i
        · exact no k e a d m t hm ht
        · have e : k = i := by omega
          subst e
          exact no3 a d m t hm ht
    · rintro σ' H2 ⟨_, _, _, _, _, rfl, s2, no⟩
      refine qn (fun hring => ?_) H2 s2
      obtain ⟨k, hk, a, d, m, t, h1, h2, h3⟩ := rif.mp hring
      exact no k (by omega) a d m t h1 h2 h3
theorem ok_hasring {f : Addr} {fd : FuncData} (F : Fun K "has_ring" "Chains.has_ring" (chm 2) f fd) (T : Bi mg) (C : Ch K mg D) (RG : HasM P w K mg base D "ring" 2 ["self"] (spRg P w D)) :
    FnG P w K mg base CX0 3 f fd ["self"] (spHr P w D) := by
  refine okG F scHr (fun vs H Q E h => ?_) (fun cdv A out s H vs Q E g hr h => ?_)
  · obtain ⟨c, gs, rs, rfl, _⟩ := h
    rfl
  · obtain ⟨c, gs, rs, rfl, ch, fit, qy, qn⟩ := h
    obtain ⟨pl, cs, ls, ts, ho, _⟩ := id ch
    obtain ⟨dx, eo⟩ := ho.ob
    have hr2 : Room 2 _ := hr
    refine ⟨_, (pss_one (ps_ret (pe_cmpR op_notN (pe_hasM0 RG C.cl g hr2 rfl (pv 0)) pe_non (nomark _)))), ?_⟩
    refine ⟨_, rfl, c, dx, _, rfl, eo, cfl_o (by decide +kernel) (by decide +kernel) (by decide +kernel) (by decide +kernel), rfl, rfl, ?_⟩
    exact ⟨c, gs, rs, rfl, ch, fit, fun hg L H1 s1 => ⟨rfl, qy hg H1 s1⟩, fun hg H1 s1 => ⟨rfl, qn hg H1 s1⟩⟩
end
end KM

set_option Elab.async false
set_option linter.all false
set_option maxRecDepth 100000
set_option maxHeartbeats 4000000
namespace KM
open PySem PySem.Spec PyProof.Rows L2 GL
/-! the tightest bound, a move -/
abbrev nTi : List Str := ["self", "first", "second", "sums", "found"]
abbrev nMo : List Str := ["self", "place", "changes", "_", "one", "other", "most", "good"]
theorem scTi : FnScope nTi ["self", "first", "second"] (defScope (chm 4)) := ⟨rfl, rfl, rfl, by decide +kernel, rfl, by decide +kernel, by decide +kernel⟩
theorem scMo : FnScope nMo ["self"] (defScope (chm 7)) := ⟨rfl, rfl, rfl, by decide +kernel, rfl, by decide +kernel, by decide +kernel⟩
def oI : Option Int → V
  | none => .non
  | some t => .int t
def spTi (P : Program) (w : World) (D : Addr) : Sp := fun vs H Q _ => ∃ (c : Addr) (gs : List Str) (rs : List Row) (a b : Pt), vs = [.ref c, oV a, oV b] ∧ ChAt P w D H c gs rs ∧ CFit gs rs ∧ a ∈ pts gs ∧ ¬ KN.Ring rs ∧ ∀ x H', KN.Least rs a b x → Same H H' → Q (oI x) H'
section
variable {P : Program} {w : World} {K : PySem.W.Frag} {mg : Str → Option Value} {base : Heap} {D : Addr}
theorem ok_tightest {f : Addr} {fd : FuncData} (F : Fun K "tightest" "Chains.tightest" (chm 4) f fd) (T : Bi mg) (C : Ch K mg D) :
    FnG P w K mg base CX0 1 f fd ["self", "first", "second"] (spTi P w D) := by
  refine okG F scTi (fun vs H Q E h => ?_) (fun cdv A out s H vs Q E g hr h => ?_)
  · obtain ⟨c, gs, rs, a, b, rfl, _⟩ := h
    rfl
  · obtain ⟨c, gs, rs, a, b, rfl, ch, fit, ha, nn, q⟩ := h
    obtain ⟨pl, cs, ls, ts, ho, els, lts, tt⟩ := id ch
    obtain ⟨dx, eo⟩ := ho.ob
    obtain ⟨Fn, hF⟩ := tabs_fun tt
    have l2 := fit.g.l2
    have ex : ∀ k, k ≤ (pts gs).length → KN.Exact rs (pts gs) k (Fn k) := fun k hk => by
      rw [pts_len] at hk
      exact (hF k ts[k] (List.getElem?_eq_getElem (by omega))).2
    have szl := sizeLine_eq
    refine ⟨_, (pss_cons (ps_setLc (i := 4) (own := [("sums", 3)]) (g := gName 3) (tt := tB (tOIn P w (tTupL (tCons (tVar 1) (tCons (tVar 2) tNil))) (tVar 3))) (te := tOGet P w (tVar 3) (tTupL (tCons (tVar 1) (tCons (tVar 2) tNil)))) rfl scTi.nd rfl rfl (sw_true rfl rfl rfl (by decide +kernel)) (pi_list (pe_fld (pv 0) rfl)) (blkOk_by (own := [("sums", 3)]) (N := nTi) (sc := defScope (chm 4)) (by decide +kernel)) (fun _ _ _ _ _ => by exact (pg_name (i := 3) scTi.nd rfl (.inl rfl))) (fun _ _ _ _ _ => by exact (pts_one (pt_cmp (pc_oin (by have := hr.units; exact Nat.lt_of_le_of_lt (Nat.add_le_add_left (by decide) _) this) (pe_tupL (pa_cons (pv 1) (pa_cons (pv 2) pa_nil))) (pv 3))))) (fun _ _ _ _ _ => by exact (pe_oget (by have := hr.units; exact Nat.lt_of_le_of_lt (Nat.add_le_add_left (by decide) _) this) (pv 3) (pe_tupL (pa_cons (pv 1) (pa_cons (pv 2) pa_nil))) (fun _ _ => rfl))))
      (pss_one (ps_ret (pe_ifExp (pt_cmpR op_gt (pe_callB call_len_seq (by rfl) T.len PySem.boot_len (pa_cons (pv 4) pa_nil)) pe_int (nomark _)) (pe_callB (cr_min (by rfl)) (by rfl) T.min (by decide +kernel) (pa_cons (pv 4) pa_nil)) pe_non)))), ?_⟩
    refine ⟨_, rfl, c, D, dx, _, _, rfl, eo, C.cl, C.nS, cfl_s, ls, rfl, ⟨_, SqL.of els⟩, fun L nL => ?_⟩
    refine lc_it (walk_list (K := K) (a := ls) (xs := ts.map V.ref)) (fun i H' => Same H H' ∧ ∃ ns : List Int, H' L = some (.lst (ns.map V.int)) ∧ ns.length ≤ i ∧ (∀ t ∈ ns, ∃ k, k < i ∧ Fn k a b = some t) ∧ ∀ k t, k < i → Fn k a b = some t → t ∈ ns) ?_ ?_ ?_ ?_
    · exact ⟨same_new (Same.refl' _) nL, [], upd_same, Nat.le_refl _, fun t h => (by cases h), fun k t h => by omega⟩
    · exact fun i H' _ ⟨z, _⟩ => SqL.of (z _ _ els)
    · rintro i x H1 H2 hi ⟨s1, ns, e1, ln, n1, n2⟩ ⟨rfl, hx⟩
      obtain ⟨tk, hk, rfl⟩ := get_map hx
      obtain ⟨tak, _⟩ := hF i tk hk
      have hi4 : i < ts.length := (List.getElem?_eq_some_iff.mp hk).1
      refine ⟨rfl, ?_⟩
      refine ⟨_, rfl, _, rfl, by show 2 ≤ sizeLine; decide, fun t1 H3 n3 e3 s3 => ?_⟩
      have S3 := s1.trans s3
      refine ⟨_, rfl, tk, _, rfl, (tak.same S3).get e3, _, rfl, ?_⟩
      have eL3 := s3 _ _ e1
      cases hf : Fn i a b with
      | none =>
        refine iteF ?_
        refine ⟨S3, ns, eL3, by omega, fun t h => ?_, fun k t hk' e => ?_⟩
        · obtain ⟨k, a1, a2⟩ := n1 t h
          exact ⟨k, by omega, a2⟩
        · by_cases z : k < i
          · exact n2 k t z e
          · have z : k = i := by omega
            subst z
            rw [hf] at e
            cases e
      | some t0 =>
        refine iteT ?_
        refine ⟨_, rfl, _, rfl, _, rfl, by show 2 ≤ sizeLine; decide, fun t2 H4 n4 e4 s4 => ?_⟩
        refine ⟨tk, _, rfl, by rw [← show ((some t0 : Option Int).map V.int) = some (V.int t0) from rfl, ← hf]; exact (tak.same (S3.trans s4)).get e4, ?_⟩
        have eL4 := s4 _ _ eL3
        refine ⟨_, eL4, by rw [List.length_map]; exact small1000 (by omega), same_but (S3.trans s4) But.refl.upd nL, ns ++ [t0], by rw [upd_same]; simp, by simp; omega, fun t h => ?_, fun k t hk' e => ?_⟩
        · rcases List.mem_append.mp h with h | h
          · obtain ⟨k, a1, a2⟩ := n1 t h
            exact ⟨k, by omega, a2⟩
          · exact ⟨i, by omega, by rw [hf, List.mem_singleton.mp h]⟩
        · by_cases z : k < i
          · exact List.mem_append_left _ (n2 k t z e)
          · have z : k = i := by omega
            subst z
            rw [hf] at e
            cases e
            exact List.mem_append_right _ (List.mem_singleton.mpr rfl)
    · rintro H1 ⟨s1, ns, e1, ln, n1, n2⟩
      rw [List.length_map, lts] at n1 n2
      have pl1 := pts_len gs
      refine ⟨_, rfl, L, _, rfl, .inl (SqL.of e1), _, _, rfl, rfl, _, rfl, ?_⟩
      rw [List.length_map]
      cases ns with
      | nil =>
        rw [decide_eq_false (by show ¬ (0 : Int) > 0; omega)]
        refine iteF ?_
        refine q none H1 (KN.least_of (good_in fit.r) nn Fn ex (a := a) (b := b) ha (x := none) fun k hk => ?_) s1
        cases e : Fn k a b with
        | none => rfl
        | some t => have := n2 k t (by omega) e; cases this
      | cons y r =>
        rw [decide_eq_true (by show (((r.length + 1 : Nat) : Int)) > 0; omega)]
        refine iteT ?_
        refine ⟨_, rfl, L, y :: r, rfl, SqL.of e1, by simp, fun m hm hmin => ?_⟩
        refine q (some m) H1 (KN.least_of (good_in fit.r) nn Fn ex (a := a) (b := b) ha (x := some m) ⟨?_, fun k hk s e => hmin s (n2 k s (by omega) e)⟩) s1
        obtain ⟨k, a1, a2⟩ := n1 m hm
        exact ⟨k, by omega, a2⟩
end
theorem dc_walk {J : It} {n : Nat} {G : Hp → Prop} {Y : Nat → Hp → V → Hp → Prop} (wk : Walk J n G Y) {D : Addr} {σ : L2.St} {vs : List Nat} {g : TG} {tt : TT} {tk tv : TE} {H2 : Hp} {Q : Hp → Prop} (Pv : Nat → Hp → Prop) (h0 : Pv 0 H2)
    (hG : ∀ i H, i ≤ n → Pv i H → G H) (hs : ∀ i x H H', i < n → Pv i H → Y i H x H' → g x (wipe σ vs) H' fun σ2 H2 => wipe σ2 vs = wipe σ vs ∧ tt σ2 H2 fun b H3 => if b = true then tk σ2 H3 fun y H4 => tv σ2 H4 fun z H5 => ∃ (kvs : List (L2.Key × V)) (k : L2.Key), y = kV k ∧ H5 D = some (.dK kvs) ∧ kvs.length < sizeLine ∧ Pv (i + 1) (upd H5 D (.dK (putK kvs k z))) else Pv (i + 1) H3)
    (hd : ∀ H, Pv n H → Q H) :
    ∃ W : Nat → Nat → Hp → Prop, (∃ m, W 0 m H2) ∧ ∀ i m H, W i m H → (J.stop i H ∧ Q H) ∨ (J.go i H ∧ ∃ Nx : Hp → Prop, (∀ H', Nx H' → ∃ m', m' < m ∧ W (i + 1) m' H') ∧ ∀ x H', J.yld i H x H' → g x (wipe σ vs) H' fun σ2 H2 => wipe σ2 vs = wipe σ vs ∧ tt σ2 H2 fun b H3 => if b = true then tk σ2 H3 fun y H4 => tv σ2 H4 fun z H5 => ∃ (kvs : List (L2.Key × V)) (k : L2.Key), y = kV k ∧ H5 D = some (.dK kvs) ∧ kvs.length < sizeLine ∧ Nx (upd H5 D (.dK (putK kvs k z))) else Nx H3) := by
  refine ⟨fun i m H => m = n - i ∧ i ≤ n ∧ Pv i H, ⟨n, by omega, by omega, h0⟩, ?_⟩
  rintro i m H ⟨rfl, hi, p⟩
  by_cases e : i = n
  · subst e
    exact .inl ⟨wk.stops H (hG _ _ hi p), hd H p⟩
  · have lt : i < n := by omega
    exact .inr ⟨wk.goes i H lt (hG _ _ hi p), Pv (i + 1), fun H' p' => ⟨n - (i + 1), by omega, rfl, by omega, p'⟩, fun x H' y => hs i x H H' lt p (wk.yields i H x H' lt (hG _ _ hi p) y)⟩
def mvStep (f : Pt → Int) (r : Row) : Pt → Int := fun q => if q = r.1 then min (f r.1) (f r.2.1 + r.2.2) else f q
def mvI (rs : List Row) : Nat → Pt → Int
  | 0 => fun _ => 0
  | i + 1 => rs.foldl mvStep (mvI rs i)
/-- the told changes -/
def mvG (gs : List Str) (rs : List Row) : Pt → Int := fun p => mvI rs (gs.length + 1) p - mvI rs (gs.length + 1) none
def chgD (gs : List Str) (g : Pt → Int) : List (L2.Key × V) := gs.map fun x => (Sum.inr x, V.int (g (some x)))
def spMv (P : Program) (w : World) (D : Addr) : Sp := fun vs H Q _ => ∃ (c : Addr) (gs : List Str) (rs : List Row), vs = [.ref c] ∧ ChAt P w D H c gs rs ∧ CFit gs rs ∧ ¬ KN.Ring rs ∧
  ∀ d H', H d = none → H' d = some (.dK (chgD gs (mvG gs rs))) → mvG gs rs none = 0 → (∀ c ∈ rs, mvG gs rs c.1 - mvG gs rs c.2.1 ≤ c.2.2) → (∀ p, (mvG gs rs p).natAbs ≤ 25000) → Same H H' → Q (.ref d) H'
theorem pts_nd {gs : List Str} (h : gs.Nodup) : (pts gs).Nodup := by
  unfold pts
  refine List.nodup_cons.mpr ⟨fun z => ?_, ?_⟩
  · obtain ⟨x, _, e⟩ := List.mem_map.mp z
    cases e
  · exact List.Pairwise.map some (fun a b (e : a ≠ b) f => e (Option.some.inj f)) h
theorem nd_at {α : Type} {l : List α} (h : l.Nodup) {i : Nat} {x : α} (e : l[i]? = some x) : x ∉ l.take i := by
  intro m
  obtain ⟨j, hj, ej⟩ := List.mem_iff_getElem.mp m
  rw [List.length_take] at hj
  rw [List.getElem_take] at ej
  obtain ⟨hi, ei⟩ := List.getElem?_eq_some_iff.mp e
  exact List.pairwise_iff_getElem.mp h j i (by omega) hi (by omega) (ej.trans ei.symm)
theorem chg_new {l : List Pt} {p : Pt} {f : Pt → Int} (h : p ∉ l) : putK (ChgK l f) (kO p) (.int (f p)) = ChgK (l ++ [p]) f := by
  have z : valV (ChgK l f) (kO p) = none := by
    induction l with
    | nil => rfl
    | cons a r ih =>
      have h1 : ¬ kO a = kO p := fun z => h (by rw [kO_inj z]; exact List.mem_cons_self ..)
      exact (valV_neg (κ := NK) (p := (kO a, V.int (f a))) h1).trans (ih fun z => h (List.mem_cons_of_mem _ z))
  rw [putK_new _ z]
  unfold ChgK
  rw [List.map_append]
  rfl
theorem strs_new {l : List Str} {x : Str} {f : Str → Int} (h : x ∉ l) : putK (l.map fun y => ((Sum.inr y : L2.Key), V.int (f y))) (Sum.inr x) (.int (f x)) = (l ++ [x]).map fun y => ((Sum.inr y : L2.Key), V.int (f y)) := by
  have z : valV (l.map fun y => ((Sum.inr y : L2.Key), V.int (f y))) (Sum.inr x) = none := by
    induction l with
    | nil => rfl
    | cons a r ih =>
      have h1 : ¬ (Sum.inr a : L2.Key) = Sum.inr x := fun z => h (by cases z; exact List.mem_cons_self ..)
      exact (valV_neg (p := ((Sum.inr a : L2.Key), V.int (f a))) h1).trans (ih fun z => h (List.mem_cons_of_mem _ z))
  rw [putK_new _ z, List.map_append]
  rfl
section
variable {P : Program} {w : World} {K : PySem.W.Frag} {mg : Str → Option Value} {base : Heap} {D : Addr}
theorem ok_move {f : Addr} {fd : FuncData} (F : Fun K "move" "Chains.move" (chm 7) f fd) (T : Bi mg) (C : Ch K mg D) :
    FnG P w K mg base CX0 1 f fd ["self"] (spMv P w D) := by
  refine okG F scMo (fun vs H Q E h => ?_) (fun cdv A out s H vs Q E g hr h => ?_)
  · obtain ⟨c, gs, rs, rfl, _⟩ := h
    rfl
  · obtain ⟨c, gs, rs, rfl, ch, fit, nn, q⟩ := h
    obtain ⟨pl, cs, ls, ts, ho, els, lts, tt⟩ := id ch
    obtain ⟨dx, eo⟩ := ho.ob
    obtain ⟨as, ec, ra⟩ := ho.cs
    have l2 := fit.g.l2
    have lr := fit.n
    have szl := sizeLine_eq
    have la : (as.map V.ref).length = rs.length := by rw [List.length_map]; exact Paired.length ra
    have lp : ((pts gs).map oV).length = gs.length + 1 := by rw [List.length_map, pts_len]
    have nd := pts_nd fit.g.nd
    have ic := good_in fit.r
    refine ⟨_, (pss_cons (ps_set (i := 2) scMo.nd rfl (.inr rfl) (pe_oc ⟨rfl, scMo.nd, (pi_list (pe_fld (pv 0) rfl)), blkOk_by (own := [("place", 1)]) (N := nMo) (sc := defScope (chm 7)) (by decide +kernel), (fun _ _ _ _ _ => pg_name (i := 1) scMo.nd rfl (.inl rfl)), (fun _ _ _ _ _ => pts_nil), (fun _ _ _ _ _ => by exact (pv 1)), (fun _ _ _ _ _ => by exact pe_int), (fun _ => rfl), hr.units0⟩ starts_n))
      (pss_cons (ps_for PassesOwn.never rfl (pi_range1 (by rfl) T.range (pa_cons (pe_fld (pv 0) rfl) pa_nil)) (pg_name (i := 3) scMo.nd rfl (.inl rfl))
      (pss_one (ps_for PassesOwn.never rfl (pi_list (pe_fld (pv 0) rfl)) (pg_tup rfl (pgs_cons (pg_name (i := 4) scMo.nd rfl (.inl rfl)) (pgs_cons (pg_name (i := 5) scMo.nd rfl (.inl rfl)) (pgs_cons (pg_name (i := 6) scMo.nd rfl (.inl rfl)) pgs_nil))))
      (pss_one (ps_oput (by have := hr.units; exact Nat.lt_of_le_of_lt (Nat.add_le_add_left (by decide) _) this) (pv 2) (pv 4) (pe_callB (call_min2 rfl) (by rfl) T.min (by decide +kernel) (pa_cons (pe_oget (by have := hr.units; exact Nat.lt_of_le_of_lt (Nat.add_le_add_left (by decide) _) this) (pv 2) (pv 4) (fun _ _ => rfl)) (pa_cons (pe_op op_add (pe_oget (by have := hr.units; exact Nat.lt_of_le_of_lt (Nat.add_le_add_left (by decide) _) this) (pv 2) (pv 5) (fun _ _ => rfl)) (pv 6)) pa_nil))) rfl)))))
      (pss_one (ps_ret (pe_dc (own := [("good", 7)]) (g := gName 7) (tt := tYes) (tk := tVar 7) (tv := tOp (rI0 fun i j => V.int (i - j)) (tOGet P w (tVar 2) (tVar 7)) (tOGet P w (tVar 2) (tC .non))) rfl scMo.nd (pi_list (pe_slice slcL (pe_fld (pv 0) rfl) (po_some pe_int) po_none)) (blkOk_by (own := [("good", 7)]) (N := nMo) (sc := defScope (chm 7)) (by decide +kernel)) (fun _ _ _ _ _ => by exact (pg_name (i := 7) scMo.nd rfl (.inl rfl))) (fun _ _ _ _ _ => pts_nil) (fun _ _ _ _ _ => by exact (pv 7)) (fun _ _ _ _ _ => by exact (pe_op op_sub (pe_oget (by have := hr.units; exact Nat.lt_of_le_of_lt (Nat.add_le_add_left (by decide) _) this) (pv 2) (pv 7) (fun _ _ => rfl)) (pe_oget (by have := hr.units; exact Nat.lt_of_le_of_lt (Nat.add_le_add_left (by decide) _) this) (pv 2) pe_non (fun _ _ => rfl))))))))), ?_⟩
    refine ⟨_, rfl, c, D, dx, _, _, rfl, eo, C.cl, C.nP, cfl_p, pl, rfl, ⟨_, SqL.of ho.pl⟩, ?_⟩
    intro d H1 n1 e1 s1
    refine oc_walk (walk_list (K := K) (a := pl) (xs := (pts gs).map oV)) (fun i H' => Same H H' ∧ H' d = some (NDo P w d (ChgK ((pts gs).take i) (fun _ => 0)))) ⟨s1, e1⟩ (fun i H' _ ⟨z, _⟩ => SqL.of (z _ _ ho.pl)) ?_ ?_
    · rintro i y H2 H3 hi ⟨s2, e2⟩ ⟨rfl, hy⟩
      obtain ⟨p, hp, rfl⟩ := oV_at hy
      rw [lp] at hi
      refine ⟨rfl, yes_go ?_⟩
      refine ⟨_, rfl, .inl ⟨_, kO p, e2, (nV_kO p).symm, small1000 (by unfold ChgK; rw [List.length_map, List.length_take]; omega), fun H4 e4 b4 => ⟨same_but s2 b4 n1, ?_⟩⟩⟩
      rw [take_more hp, ← chg_new (f := fun _ => 0) (nd_at nd hp)]
      exact e4
    rintro H2 ⟨s2, e2⟩
    rw [lp, ← pts_len, List.take_length] at e2
    refine ⟨_, rfl, c, D, dx, _, _, rfl, s2 _ _ eo, C.cl, C.nM, cfl_m, _, rfl, by omega, by omega, ?_⟩
    refine for_range (n := ((gs.length + 1 : Nat) : Int).toNat) (fun i σ' H' => ∃ (x1 x3 x4 x5 x6 x7 : Option V), σ' = [some (.ref c), x1, some (.ref d), x3, x4, x5, x6, x7] ∧ Same H H' ∧ ∃ f : Pt → Int, H' d = some (NDo P w d (ChgK (pts gs) f)) ∧ KN.Mov rs (pts gs) i f ∧ (∀ p, (f p).natAbs ≤ i * 2500) ∧ f = mvI rs i) ?_ ?_ ?_
    · exact ⟨_, _, _, _, _, _, rfl, s2, fun _ => 0, e2, .zero fun _ _ => rfl, (fun p => by simp), rfl⟩
    · rintro i σ' H3 hi ⟨x1, x3, x4, x5, x6, x7, rfl, s3, f0, e3, m3, b3, q3⟩
      have hi5 : i < gs.length + 1 := by omega
      refine ⟨_, rfl, c, D, dx, _, _, rfl, s3 _ _ eo, C.cl, C.nK, cfl_c, cs, rfl, ⟨_, SqL.of (s3 _ _ ec)⟩, ?_⟩
      refine for_list (K := K) (a := cs) (xs := as.map V.ref) (fun j σ' H' => ∃ (x4 x5 x6 : Option V), σ' = [some (.ref c), x1, some (.ref d), some (.int (0 + (i : Nat))), x4, x5, x6, x7] ∧ Same H H' ∧
        ∃ f : Pt → Int, H' d = some (NDo P w d (ChgK (pts gs) f)) ∧ KN.MRnd rs (pts gs) f0 f (fun x => x ∈ rs.take j) ∧ (∀ p, (f p).natAbs ≤ i * 2500 + j * 100) ∧ f = (rs.take j).foldl mvStep f0) ?_ ?_ ?_ ?_
      · refine ⟨x4, x5, x6, rfl, s3, f0, e3, ⟨m3.s, fun _ _ => Int.le_refl _, fun x q => by simp at q⟩, (fun p => by have := b3 p; omega), rfl⟩
      · rintro j σ' H4 _ ⟨_, _, _, rfl, s4, _⟩
        exact SqL.of (s4 _ _ ec)
      · rintro j x σ' H4 hj ⟨_, _, _, rfl, s4, f, e4, m4, b4, q4⟩
        obtain ⟨tr, r, rfl, er, et⟩ := rows_at (rows_same ra s4) hj
        have rmem := List.mem_of_getElem? er
        have gr := fit.r r rmem
        have pr1 := in_pts gr.one
        have pr2 := in_pts gr.two
        have most := gr.most
        refine ⟨tr, _, rfl, SqT.of et, rfl, _, _, rfl, _, _, rfl, _, _, rfl, rfl, ?_⟩
        have og : ∀ {p : Pt}, p ∈ pts gs → OGet P w H4 d (oV p) (some (.int (f p))) := fun {p} hp => .inl ⟨_, kO p, e4, (nV_kO p).symm, (chg_val hp).symm⟩
        refine ⟨_, rfl, _, rfl, d, _, rfl, og pr1, _, rfl, _, rfl, d, _, rfl, og pr2, _, rfl, _, _, rfl, rfl, _, _, rfl, ?_⟩
        refine ⟨_, rfl, _, rfl, d, rfl, .inl ⟨_, kO r.1, e4, (nV_kO _).symm, small1000 (by unfold ChgK; rw [List.length_map, pts_len]; omega), fun H5 e5 bt5 => ?_⟩⟩
        have val : (if f r.2.1 + r.2.2 < f r.1 then f r.2.1 + r.2.2 else f r.1) = min (f r.1) (f r.2.1 + r.2.2) := by
          rw [Int.min_def]
          split <;> split <;> omega
        rw [val, chg_put pr1] at e5
        refine ⟨_, _, _, rfl, same_but s4 bt5 n1, _, e5, ?_, fun p => ?_, by rw [take_more er, List.foldl_append, ← q4]; rfl⟩
        · have z := m4.put ic (a := r.1) (d := r.2.1) (m := r.2.2) rmem (fun x hx => List.mem_of_mem_take hx)
          refine ⟨z.s, z.b, fun x q => z.c x ?_⟩
          rw [take_more er] at q
          rcases List.mem_append.mp q with q | q
          · exact .inl q
          · exact .inr (List.mem_singleton.mp q)
        · have h1 := b4 r.1
          have h2 := b4 r.2.1
          have h3 := b4 p
          show (if p = r.1 then min (f r.1) (f r.2.1 + r.2.2) else f p).natAbs ≤ _
          split
          · rw [Int.min_def]
            split <;> omega
          · omega
      · rintro σ' H4 ⟨_, _, _, rfl, s4, f, e4, m4, b4, q4⟩
        rw [la] at m4 b4 q4
        rw [List.take_of_length_le (Nat.le_refl _)] at m4 q4
        exact ⟨x1, _, _, _, _, x7, rfl, s4, f, e4, m4.done ic m3 fun c hc => hc, (fun p => by have := b4 p; omega), by rw [q4, q3]; rfl⟩
    · rintro σ' H3 ⟨x1, x3, x4, x5, x6, x7, rfl, s3, f, e3, m3, b3, q3⟩
      have k3 : KN.Mov rs (pts gs) (pts gs).length f := by
        rw [pts_len]
        exact m3
      have keeps := k3.keeps ic nn
      refine ⟨_, rfl, c, D, dx, _, _, rfl, s3 _ _ eo, C.cl, C.nP, cfl_p, 1, rfl, pl, _, rfl, SqL.of (s3 _ _ ho.pl), fun G H4 n4 e4 s4 => ?_⟩
      have cut : cutV ((pts gs).map oV) (some (1 : Int)) none = gs.map V.str := by
        have z := cut_drop (xs := (pts gs).map oV) (i := 1) (by rw [lp]; omega)
        have e1 : ((1 : Nat) : Int) = 1 := rfl
        rw [e1] at z
        rw [z]
        unfold pts
        rw [List.map_cons, List.map_map]
        rfl
      rw [cut] at e4
      refine ⟨G, rfl, ⟨_, SqL.of e4⟩, fun R nR => ?_⟩
      refine dc_walk (walk_list (K := K) (a := G) (xs := gs.map V.str)) (fun i H' => Same H4 H' ∧ H' R = some (.dK ((gs.take i).map fun y => ((Sum.inr y : L2.Key), V.int (f (some y) - f none))))) ⟨same_new (Same.refl' _) nR, upd_same⟩ (fun i H' _ ⟨z, _⟩ => SqL.of (z _ _ e4)) ?_ ?_
      · rintro i y H5 H6 hi ⟨s5, e5⟩ ⟨rfl, hy⟩
        obtain ⟨x, hx, rfl⟩ := get_map hy
        have e5d := s5 _ _ (s4 _ _ e3)
        have og : ∀ {p : Pt}, p ∈ pts gs → OGet P w H6 d (oV p) (some (.int (f p))) := fun {p} hp => .inl ⟨_, kO p, e5d, (nV_kO p).symm, (chg_val hp).symm⟩
        refine ⟨rfl, yes_go ?_⟩
        refine ⟨_, rfl, _, rfl, _, rfl, d, _, rfl, og (p := some x) (in_pts fun z e => by cases e; exact List.mem_of_getElem? hx), _, rfl, d, _, rfl, og (p := none) (in_pts fun z e => by cases e), _, _, rfl, rfl, ?_⟩
        refine ⟨_, Sum.inr x, rfl, e5, small1000 (by rw [List.length_map, List.length_take]; omega), same_but s5 But.refl.upd nR, ?_⟩
        rw [upd_same, take_more hx, ← strs_new (f := fun y => f (some y) - f none) (nd_at fit.g.nd hx)]
      · rintro J5 ⟨s5, e5⟩
        rw [List.length_map, List.take_length] at e5
        have eg : mvG gs rs = fun p => f p - f none := by rw [q3]; rfl
        refine q R J5 ((s3.trans s4).free nR) (by rw [eg]; exact e5) (by rw [eg]; show f none - f none = 0; omega) (fun c hc => ?_) (fun p => ?_) ((s3.trans s4).trans s5)
        · have := keeps c hc
          rw [eg]
          show (f c.1 - f none) - (f c.2.1 - f none) ≤ c.2.2
          omega
        · have h1 := b3 p
          have h2 := b3 none
          rw [eg]
          show (f p - f none).natAbs ≤ 25000
          omega
end
end KM

set_option linter.all false
namespace KN
variable {P : Type} [DecidableEq P]
open Classical in
section
/-! needless conditions, what is left without them -/
def wo {α : Type} (l : List α) (i : Nat) : List α := l.take i ++ l.drop (i + 1)
def Needl (rs : List (Cond P)) (i : Nat) : Prop := ∃ r, rs[i]? = some r ∧ Imp (wo rs i) r
noncomputable def nb (rs : List (Cond P)) (i : Nat) : Bool := decide (Needl rs i)
theorem nb_yes {rs : List (Cond P)} {i : Nat} (h : Needl rs i) : nb rs i = true := decide_eq_true h
theorem nb_no {rs : List (Cond P)} {i : Nat} (h : ¬ Needl rs i) : nb rs i = false := decide_eq_false h
theorem nb_iff {rs : List (Cond P)} {i : Nat} : nb rs i = true ↔ Needl rs i := decide_eq_true_iff
noncomputable def needs (rs : List (Cond P)) : List Nat := (List.range rs.length).filter (nb rs)
theorem needs_step {rs : List (Cond P)} {i : Nat} : (List.range (i + 1)).filter (nb rs) = if nb rs i = true then (List.range i).filter (nb rs) ++ [i] else (List.range i).filter (nb rs) := by
  rw [List.range_succ, List.filter_append]
  cases h : nb rs i <;> simp [h]
noncomputable def leanN : Nat → List (Cond P) → List (Cond P)
  | 0, t => t
  | n + 1, t => leanN n (if Needl t n then wo t n else t)
theorem leanN_yes {n : Nat} {t : List (Cond P)} (h : Needl t n) : leanN (n + 1) t = leanN n (wo t n) := by
  show leanN n (if Needl t n then wo t n else t) = _
  rw [if_pos h]
theorem leanN_no {n : Nat} {t : List (Cond P)} (h : ¬ Needl t n) : leanN (n + 1) t = leanN n t := by
  show leanN n (if Needl t n then wo t n else t) = _
  rw [if_neg h]
noncomputable def leanL (rs : List (Cond P)) : List (Cond P) := leanN rs.length rs
theorem wo_len {α : Type} {l : List α} {i : Nat} (h : i < l.length) : (wo l i).length + 1 = l.length := by
  unfold wo
  rw [List.length_append, List.length_take, List.length_drop]
  omega
theorem mem_wo {α : Type} {l : List α} {i : Nat} {x : α} (h : x ∈ wo l i) : x ∈ l := by
  rcases List.mem_append.mp h with h | h
  · exact List.mem_of_mem_take h
  · exact List.mem_of_mem_drop h
theorem mem_or {α : Type} {l : List α} {i : Nat} {x r : α} (e : l[i]? = some r) (h : x ∈ l) : x = r ∨ x ∈ wo l i := by
  obtain ⟨j, hj, ej⟩ := List.mem_iff_getElem.mp h
  by_cases c : j = i
  · subst c
    have := List.getElem?_eq_getElem hj
    rw [e] at this
    exact .inl (ej ▸ (Option.some.inj this).symm)
  · refine .inr ?_
    unfold wo
    by_cases c2 : j < i
    · refine List.mem_append_left _ (List.mem_iff_getElem.mpr ⟨j, by rw [List.length_take]; omega, by rw [List.getElem_take]; exact ej⟩)
    · refine List.mem_append_right _ (List.mem_iff_getElem.mpr ⟨j - (i + 1), by rw [List.length_drop]; omega, ?_⟩)
      rw [List.getElem_drop]
      rw [← ej]
      congr 1
      omega
theorem wo_at {α : Type} {l : List α} {i j : Nat} (h : i < l.length) : (wo l i)[j]? = if j < i then l[j]? else l[j + 1]? := by
  unfold wo
  by_cases c : j < i
  · rw [if_pos c, List.getElem?_append_left (by rw [List.length_take]; omega), List.getElem?_take_of_lt c]
  · rw [if_neg c, List.getElem?_append_right (by rw [List.length_take]; omega), List.getElem?_drop, List.length_take]
    congr 1
    omega
/-- out of what is left without i at j: no more than without j' alone -/
theorem wo_wo {α : Type} {l : List α} {i j : Nat} (hi : i < l.length) (hj : i ≤ j) (x : α) (h : x ∈ wo (wo l i) j) : x ∈ wo l (j + 1) := by
  obtain ⟨k, hk, ek⟩ := List.mem_iff_getElem.mp h
  have e := List.getElem?_eq_getElem hk
  rw [ek] at e
  by_cases hj2 : j < (wo l i).length
  · rw [wo_at hj2] at e
    have at1 : ∀ m, m ≠ j + 1 → l[m]? = some x → x ∈ wo l (j + 1) := by
      intro m hm em
      unfold wo
      by_cases c : m < j + 1
      · refine List.mem_append_left _ (List.mem_of_getElem? (i := m) ?_)
        rw [List.getElem?_take_of_lt c]
        exact em
      · refine List.mem_append_right _ (List.mem_of_getElem? (i := m - (j + 1 + 1)) ?_)
        rw [List.getElem?_drop]
        rw [← em]
        congr 1
        omega
    by_cases c1 : k < j
    · rw [if_pos c1, wo_at hi] at e
      by_cases c2 : k < i
      · rw [if_pos c2] at e
        exact at1 k (by omega) e
      · rw [if_neg c2] at e
        exact at1 (k + 1) (by omega) e
    · rw [if_neg c1, wo_at hi, if_neg (by omega)] at e
      exact at1 (k + 1 + 1) (by omega) e
  · -- j is beyond: nothing is left out
    have z : x ∈ wo l i := mem_wo h
    have len := wo_len hi
    have e2 : wo l (j + 1) = l := by
      unfold wo
      rw [List.take_of_length_le (by omega), List.drop_of_length_le (by omega), List.append_nil]
    rw [e2]
    exact mem_wo z
/-- none from n on is needless -/
def NoNd (n : Nat) (t : List (Cond P)) : Prop := ∀ j, n ≤ j → ¬ Needl t j
theorem NoNd.step {n : Nat} {t : List (Cond P)} (h : NoNd (n + 1) t) : NoNd n (if Needl t n then wo t n else t) := by
  intro j hj nd
  by_cases c : Needl t n
  · rw [if_pos c] at nd
    obtain ⟨r0, e0, _⟩ := c
    have hn : n < t.length := (List.getElem?_eq_some_iff.mp e0).1
    obtain ⟨r, e, i⟩ := nd
    rw [wo_at hn, if_neg (by omega)] at e
    exact h (j + 1) (by omega) ⟨r, e, i.mono fun x hx => wo_wo hn hj x hx⟩
  · rw [if_neg c] at nd
    by_cases z : j = n
    · exact c (z ▸ nd)
    · exact h j (by omega) nd
theorem leanN_nond : ∀ (n : Nat) (t : List (Cond P)), NoNd n t → NoNd 0 (leanN n t)
  | 0, t, h => h
  | n + 1, t, h => leanN_nond n _ h.step
theorem leanL_nond (rs : List (Cond P)) : ∀ i, ¬ Needl (leanL rs) i := fun i =>
  leanN_nond rs.length rs (fun j hj nd => by
    obtain ⟨r, e, _⟩ := nd
    have := (List.getElem?_eq_some_iff.mp e).1
    omega) i (Nat.zero_le _)
theorem leanN_id : ∀ (n : Nat) (t : List (Cond P)), (∀ i, ¬ Needl t i) → leanN n t = t
  | 0, _, _ => rfl
  | n + 1, t, h => by
    show leanN n (if Needl t n then wo t n else t) = t
    rw [if_neg (h n)]
    exact leanN_id n t h
theorem lean_lean (rs : List (Cond P)) : leanL (leanL rs) = leanL rs := leanN_id _ _ (leanL_nond rs)
theorem needs_lean (rs : List (Cond P)) : needs (leanL rs) = [] := by
  unfold needs
  rw [List.filter_eq_nil_iff]
  intro i _ h
  exact leanL_nond rs i (nb_iff.mp h)
theorem leanN_sub : ∀ (n : Nat) (t : List (Cond P)), ∀ c ∈ leanN n t, c ∈ t
  | 0, t, c, h => h
  | n + 1, t, c, h => by
    have z := leanN_sub n _ c h
    split at z
    · exact mem_wo z
    · exact z
theorem leanN_imp : ∀ (n : Nat) (t : List (Cond P)), ∀ c ∈ t, Imp (leanN n t) c
  | 0, t, c, h => .mem h
  | n + 1, t, c, h => by
    show Imp (leanN n (if Needl t n then wo t n else t)) c
    by_cases nd : Needl t n
    · rw [if_pos nd]
      obtain ⟨r, e, i⟩ := nd
      rcases mem_or e h with rfl | h
      · exact Imp.over (leanN_imp n _) i
      · exact leanN_imp n _ c h
    · rw [if_neg nd]
      exact leanN_imp n _ c h
theorem leanN_len : ∀ (n : Nat) (t : List (Cond P)), (leanN n t).length ≤ t.length
  | 0, t => Nat.le_refl _
  | n + 1, t => by
    refine Nat.le_trans (leanN_len n _) ?_
    split
    · unfold wo
      rw [List.length_append, List.length_take, List.length_drop]
      omega
    · exact Nat.le_refl _
/-- both have the same moves -/
def Alike (C D : List (Cond P)) : Prop := (∀ c ∈ D, Imp C c) ∧ ∀ c ∈ C, Imp D c
theorem lean_alike (rs : List (Cond P)) : Alike (leanL rs) rs := ⟨fun c h => leanN_imp _ _ c h, fun c h => .mem (leanN_sub _ _ c h)⟩
theorem Alike.symm {C D : List (Cond P)} (h : Alike C D) : Alike D C := ⟨h.2, h.1⟩
theorem alike_ring {C D : List (Cond P)} (r : Ring C) : Alike C D ↔ Ring D := by
  constructor
  · intro h
    exact r.over h.2
  · intro rd
    exact ⟨fun c _ => .inl r, fun c _ => .inl rd⟩
/-- the first condition of D that C does not imply -/
noncomputable def ext (C D : List (Cond P)) : Option (Cond P) := D.find? fun c => decide (¬ Imp C c)
theorem ext_none {C D : List (Cond P)} : ext C D = none ↔ ∀ c ∈ D, Imp C c := by
  unfold ext
  rw [List.find?_eq_none]
  refine ⟨fun h c hc => ?_, fun h c hc z => of_decide_eq_true z (h c hc)⟩
  by_cases q : Imp C c
  · exact q
  · exact absurd (decide_eq_true q) (h c hc)
theorem ext_some {C D : List (Cond P)} {c : Cond P} (h : ext C D = some c) : c ∈ D ∧ ¬ Imp C c := by
  unfold ext at h
  exact ⟨List.mem_of_find?_eq_some h, of_decide_eq_true (List.find?_some (p := fun c => decide (¬ Imp C c)) h)⟩
/-- the condition at n is the first one that C does not imply -/
theorem ext_at {C D : List (Cond P)} {n : Nat} {c : Cond P} (e : D[n]? = some c) (h : ∀ x ∈ D.take n, Imp C x) (ni : ¬ Imp C c) : ext C D = some c := by
  unfold ext
  have hn : n < D.length := (List.getElem?_eq_some_iff.mp e).1
  have split : D = D.take n ++ c :: D.drop (n + 1) := by
    have e2 : D[n] = c := (List.getElem?_eq_some_iff.mp e).2
    rw [← e2, List.getElem_cons_drop, List.take_append_drop]
  rw [split, List.find?_append]
  have z : (D.take n).find? (fun c => decide (¬ Imp C c)) = none := by
    rw [List.find?_eq_none]
    intro x hx z
    exact of_decide_eq_true z (h x hx)
  rw [z]
  simp [List.find?_cons, ni]
end
end KN

set_option Elab.async false
set_option linter.all false
set_option maxRecDepth 100000
set_option maxHeartbeats 4000000
namespace KM
open PySem PySem.Spec PyProof.Rows L2 GL
open Classical (propDecidable)
/-! what conditions imply -/
abbrev sIm : Stmt := top 46
abbrev sNd : Stmt := top 47
abbrev sLn : Stmt := top 48
abbrev sSg : Stmt := top 49
abbrev sMa : Stmt := top 52
/-- the class Chains, for the other texts -/
structure Hv (P : Program) (w : World) (K : PySem.W.Frag) (mg : Str → Option Value) (base : Heap) (D : Addr) : Prop where
  gC : mg "Chains" = some (.ref D)
  cl : Cls K D
  made : HasC P w K mg base D 2 ["self", "goods", "conditions"] (spCi P w D) 2 [] (fun vs _ => vs)
  ring : HasM P w K mg base D "has_ring" 3 ["self"] (spHr P w D)
  ti : HasM P w K mg base D "tightest" 1 ["self", "first", "second"] (spTi P w D)
  mv : HasM P w K mg base D "move" 1 ["self"] (spMv P w D)
theorem q_chains {P : Program} {w : World} {D : Addr} {Hc : Hp} {W : Addr → Hp → Prop} {G R : Addr} {gs : List Str} {rs : List Row} {as : List Addr} (e1 : Hc G = some (.lst (gs.map V.str))) (e2 : Hc R = some (.lst (as.map V.ref))) (rows : RowsIn Hc as rs) (fit : CFit gs rs)
    (h : ∀ x H', Hc x = none → ChAt P w D H' x gs rs → Same Hc H' → W x H') :
    ∀ x dx, Hc x = none → Hc dx = none → dx ≠ x → spCi P w D [.ref x, .ref G, .ref R] (upd (upd Hc dx (.own x)) x (.ins D dx [])) (fun v H3 => v = .non ∧ W x H3) E0 := by
  intro x dx nx ndx nex
  have k : Same Hc (upd (upd Hc dx (.own x)) x (.ins D dx [])) := fun a o e => by rw [upd_ne (ne_of_none e nx), upd_ne (ne_of_none e ndx)]; exact e
  refine ⟨x, dx, G, R, gs, rs, as, rfl, upd_same, k _ _ e1, k _ _ e2, rows_same rows k, fit.g, fit.r, fit.n, fun H' ch b => ⟨rfl, ?_⟩⟩
  exact h x H' nx ch fun a o e => b _ _ (ne_of_none e nx) (k _ _ e)
theorem ChAt.ins {P : Program} {w : World} {D : Addr} {H : Hp} {c : Addr} {gs : List Str} {rs : List Row} (h : ChAt P w D H c gs rs) : ∃ dx fs, H c = some (.ins D dx fs) ∧ ∀ m : Str, ¬ m = "_least_sums" → ¬ m = "_many" → ¬ m = "_conditions" → ¬ m = "_places" → fs.lookup m = none := by
  obtain ⟨pl, cs, ls, ts, ho, _⟩ := h
  obtain ⟨dx, eo⟩ := ho.ob
  exact ⟨dx, _, eo, fun m => cfl_o⟩
/-- what tightest tells of a condition -/
theorem imp_of {rs : List Row} {r : Row} (nn : ¬ KN.Ring rs) {x : Option Int} (h : KN.Least rs r.1 r.2.1 x) : KN.Imp rs r ↔ ∃ t, x = some t ∧ t ≤ r.2.2 := h.imp nn
def spIm (P : Program) (w : World) (D : Addr) : Sp := fun vs H Q _ => ∃ (G R t : Addr) (gs : List Str) (rs : List Row) (as : List Addr) (r : Row), vs = [.ref G, .ref R, .ref t] ∧ H G = some (.lst (gs.map V.str)) ∧ H R = some (.lst (as.map V.ref)) ∧ RowsIn H as rs ∧ RowAt H t r ∧ CFit gs rs ∧ GoodRow gs r ∧
  (KN.Imp rs r → ∀ H', Same H H' → Q (.bl true) H') ∧ (¬ KN.Imp rs r → ∀ H', Same H H' → Q (.bl false) H')
theorem scIm : FnScope ["goods", "conditions", "condition", "chains", "least"] ["goods", "conditions", "condition"] (defScope sIm) := ⟨rfl, rfl, rfl, by decide +kernel, rfl, by decide +kernel, by decide +kernel⟩
section
variable {P : Program} {w : World} {K : PySem.W.Frag} {mg : Str → Option Value} {base : Heap} {C D : Addr}
theorem ok_implied {f : Addr} {fd : FuncData} (F : Fun K "_is_implied" "_is_implied" sIm f fd) (T : Bi mg) (V0 : Hv P w K mg base D) : FnG P w K mg base CX0 4 f fd ["goods", "conditions", "condition"] (spIm P w D) := by
  refine okG F scIm (fun vs H Q E h => ?_) (fun cdv A out s H vs Q E g hr h => ?_)
  · obtain ⟨G, R, t, gs, rs, as, r, rfl, _⟩ := h
    rfl
  · obtain ⟨G, R, t, gs, rs, as, r, rfl, eG, eR, rows, et, fit, gr, qy, qn⟩ := h
    have hr3 : Room 3 _ := hr
    have hr1 : Room 1 _ := hr.mono (by decide)
    refine ⟨_, (pss_cons (ps_set (i := 3) scIm.nd rfl (.inl rfl) (pe_hasC V0.made g hr3 (by rfl) V0.gC (pa_cons (pv 0) (pa_cons (pv 1) pa_nil)) pk_nil))
      (pss_cons (ps_if (pt_val (pe_hasM0 V0.ring V0.cl g hr3 rfl (pv 3))) (pss_one (ps_ret pe_bl)) pss_nil)
      (pss_cons (ps_set (i := 4) scIm.nd rfl (.inl rfl) (pe_hasM (n := 2) V0.ti V0.cl g hr1 rfl (pv 3) (pa_cons (pe_ix ix_tup (pv 2) pe_int (fun _ _ => rfl)) (pa_cons (pe_ix ix_tup (pv 2) pe_int (fun _ _ => rfl)) pa_nil))))
      (pss_one (ps_ret (pe_and (pe_cmpR op_notN (pv 4) pe_non (nomark _)) (pe_one (pe_cmpR op_le (pv 4) (pe_ix ix_tup (pv 2) pe_int (fun _ _ => rfl)) (nomark _))))))))), ?_⟩
    refine ⟨_, rfl, _, rfl, rfl, rfl, ?_⟩
    refine q_chains eG eR rows fit fun c H1 n1 ch s1 => ?_
    obtain ⟨dx, fs, eo, lk⟩ := ch.ins
    refine ⟨_, rfl, c, dx, fs, rfl, eo, lk _ (by decide +kernel) (by decide +kernel) (by decide +kernel) (by decide +kernel), rfl, rfl, ?_⟩
    refine ⟨c, gs, rs, rfl, ch, fit, fun hg H2 s2 => ⟨_, rfl, iteT (qy (.inl hg) H2 (s1.trans s2))⟩, fun hg H2 s2 => ⟨_, rfl, iteF ?_⟩⟩
    have S2 := s1.trans s2
    refine ⟨_, rfl, c, dx, fs, rfl, s2 _ _ eo, lk _ (by decide +kernel) (by decide +kernel) (by decide +kernel) (by decide +kernel), ?_⟩
    have at2 : ∀ {H' : Hp}, Same H H' → SqT K H' t [oV r.1, oV r.2.1, .int r.2.2] := fun {H'} s' => SqT.of (s' _ _ et)
    refine ⟨_, rfl, t, _, 0, _, rfl, rfl, at2 S2, rfl, _, rfl, t, _, 1, _, rfl, rfl, at2 S2, rfl, rfl, rfl, ?_⟩
    refine ⟨c, gs, rs, r.1, r.2.1, rfl, ch.same s2, fit, in_pts gr.one, hg, fun x H3 hl s3 => ?_⟩
    have S3 := S2.trans s3
    have im := imp_of hg hl
    refine ⟨_, rfl, rfl, ?_⟩
    cases x with
    | none => exact ⟨false, rfl, qn (fun z => by obtain ⟨t, e, _⟩ := im.mp z; cases e) H3 S3⟩
    | some m =>
      refine ⟨true, rfl, ?_⟩
      refine ⟨_, rfl, _, rfl, t, _, 2, _, rfl, rfl, at2 S3, rfl, m, r.2.2, rfl, rfl, ?_⟩
      show Q (V.bl (decide (m ≤ r.2.2))) H3
      by_cases c0 : m ≤ r.2.2
      · rw [decide_eq_true c0]
        exact qy (im.mpr ⟨m, rfl, c0⟩) H3 S3
      · rw [decide_eq_false c0]
        exact qn (fun z => by obtain ⟨t, e, l⟩ := im.mp z; cases e; exact c0 l) H3 S3
def spNd (C : Addr) : Sp := fun vs H Q _ => ∃ m gs rs, vs = [.ref m] ∧ MovesAt C H m gs rs ∧ Fit gs rs ∧ ∀ L H', H L = none → H' L = some (.lst ((KN.needs rs).map fun k => V.int (k : Nat))) → Same H H' → Q (.ref L) H'
theorem scNd : FnScope ["moves", "conditions", "position", "condition"] ["moves"] (defScope sNd) := ⟨rfl, rfl, rfl, by decide +kernel, rfl, by decide +kernel, by decide +kernel⟩
theorem wo_fit {gs : List Str} {rs : List Row} {i : Nat} (fit : Fit gs rs) : CFit gs (KN.wo rs i) := by
  refine ⟨fit.g, fun r hr => fit.r r (KN.mem_wo hr), ?_⟩
  have := fit.n
  unfold KN.wo
  rw [List.length_append, List.length_take, List.length_drop]
  omega
theorem ok_needless {f : Addr} {fd : FuncData} (F : Fun K "needless" "needless" sNd f fd) (T : Bi mg) (M : Mv P w K mg base C) (IM : Has P w K mg base "_is_implied" 4 ["goods", "conditions", "condition"] (spIm P w D)) :
    FnG P w K mg base CX0 5 f fd ["moves"] (spNd C) := by
  refine okG F scNd (fun vs H Q E h => ?_) (fun cdv A out s H vs Q E g hr h => ?_)
  · obtain ⟨m, gs, rs, rfl, _⟩ := h
    rfl
  · obtain ⟨m, gs, rs, rfl, hm, fit, q⟩ := h
    obtain ⟨dx, fs, em, lk⟩ := hm.ins
    have hr4 : Room 4 _ := hr
    have hr1 : Room 1 _ := hr.mono (by decide)
    have ln := fit.n
    have szl := sizeLine_eq
    refine ⟨_, (pss_cons (ps_set (i := 1) scNd.nd rfl (.inr rfl) (pe_hasM0 M.conds M.cl g hr1 rfl (pv 0)))
      (pss_one (ps_ret (pe_lc (own := [("position", 2), ("condition", 3)]) (g := gTup K 2 (gCons (gName 2) (gCons (gName 3) gNil))) (tt := tB (tGo (["goods", "conditions", "condition"] : List Str).length 0 (spIm P w D) (fun vs _ => vs) E0 (tCons (tGoM C "goods" 0 0 (spGoods C) (fun vs _ => vs) E0 (tVar 0) tNil tNil) (tCons (tOp rCatL (tSl (rSlcL K) (tVar 1) tNoPart (tPart (tVar 2))) (tSl (rSlcL K) (tVar 1) (tPart (tOp (rI0 fun i j => V.int (i + j)) (tVar 2) (tC (.int 1)))) tNoPart)) (tCons (tVar 3) tNil))) tNil)) (te := tVar 2) (by rfl) scNd.nd (pi_enum (by rfl) T.enumerate (pa_cons (pv 1) pa_nil)) (blkOk_by (own := [("position", 2), ("condition", 3)]) (N := ["moves", "conditions", "position", "condition"]) (sc := defScope sNd) (by decide +kernel)) (fun _ _ _ _ _ => by exact (pg_tup rfl (pgs_cons (pg_name (i := 2) scNd.nd rfl (.inl rfl)) (pgs_cons (pg_name (i := 3) scNd.nd rfl (.inl rfl)) pgs_nil)))) (fun _ _ _ _ _ => by exact (pts_one (pt_val (pe_has IM g hr4 (by rfl) (pa_cons (pe_hasM0 M.goods M.cl g hr1 rfl (pv 0)) (pa_cons (pe_op op_catL (pe_slice slcL (pv 1) po_none (po_some (pv 2))) (pe_slice slcL (pv 1) (po_some (pe_op op_add (pv 2) pe_int)) po_none)) (pa_cons (pv 3) pa_nil))))))) (fun _ _ _ _ _ => by exact (pv 2)))))), ?_⟩
    refine ⟨_, rfl, m, dx, fs, rfl, em, lk _ (by decide +kernel) (by decide +kernel), rfl, rfl, m, gs, rs, rfl, hm, fun R as H1 n1 e1 rows1 s1 => ?_⟩
    refine ⟨_, rfl, R, as.map V.ref, rfl, SqL.of e1, fun L nL => ?_⟩
    have la : (as.map V.ref).length = rs.length := by rw [List.length_map]; exact Paired.length rows1
    refine lc_it (walk_enum (K := K) (a := R) (xs := as.map V.ref)) (fun i H' => Same H1 H' ∧ H' L = some (.lst (((List.range i).filter (KN.nb rs)).map fun k => V.int (k : Nat)))) ?_ ?_ ?_ ?_
    · exact ⟨same_new (Same.refl' _) nL, upd_same⟩
    · exact fun i H' _ ⟨z, _⟩ => SqL.of (z _ _ e1)
    · rintro i x H2 H3 hi ⟨s2, e2⟩ ⟨Tp, a, b, rfl, nT, rfl, ea, eb⟩
      cases ea
      obtain ⟨t, r, rfl, er, et⟩ := rows_at (rows_same rows1 s2) eb
      rw [la] at hi
      have hT : Same H2 (upd H2 Tp (.tup [.int (i : Nat), .ref t])) := same_new (Same.refl' _) nT
      have eT : (upd H2 Tp (.tup [.int (i : Nat), .ref t])) Tp = some (.tup [.int (i : Nat), .ref t]) := upd_same
      have et3 := hT _ _ et
      have s3 := s2.trans hT
      have e3 := hT _ _ e2
      generalize upd H2 Tp (.tup [.int (i : Nat), .ref t]) = H3 at hT eT et3 s3 e3
      refine ⟨Tp, _, rfl, SqT.of eT, rfl, _, _, rfl, _, _, rfl, rfl, rfl, ?_⟩
      have S3 := s1.trans s3
      refine ⟨_, rfl, m, dx, fs, rfl, S3 _ _ em, lk _ (by decide +kernel) (by decide +kernel), rfl, rfl, m, gs, rs, rfl, hm.same S3, fun G H4 nG eG sG => ?_⟩
      refine r_drop (i := i) rfl rfl ((s3.trans sG) _ _ e1) (rows_same rows1 (s3.trans sG)) hi (by omega) fun L2 bs H5 n5 e5 rows5 s5 => ?_
      have S5 := (s3.trans sG).trans s5
      have eL5 := s5 _ _ (sG _ _ e3)
      refine ⟨_, rfl, rfl, rfl, G, L2, t, gs, KN.wo rs i, bs, r, rfl, s5 _ _ eG, e5, rows5, s5 _ _ (sG _ _ et3), wo_fit fit, fit.r r (List.mem_of_getElem? er), fun im H6 s6 => ⟨_, rfl, iteT ?_⟩, fun im H6 s6 => ⟨_, rfl, iteF ?_⟩⟩
      · have nd : KN.Needl rs i := ⟨r, er, im⟩
        refine ⟨_, rfl, _, s6 _ _ eL5, ?_, same_but (S5.trans s6) But.refl.upd nL, ?_⟩
        · rw [List.length_map]
          refine small1000 (Nat.le_trans (List.length_filter_le _ _) ?_)
          rw [List.length_range]
          omega
        · rw [upd_same, KN.needs_step, if_pos (KN.nb_yes nd), List.map_append]
          rfl
      · have nd : ¬ KN.Needl rs i := fun ⟨r', er', im'⟩ => by
          rw [er] at er'
          cases er'
          exact im im'
        refine ⟨S5.trans s6, ?_⟩
        rw [KN.needs_step, KN.nb_no nd, if_neg (by decide)]
        exact s6 _ _ eL5
    · rintro H2 ⟨s2, e2⟩
      rw [la] at e2
      exact q L H2 (s1.free nL) e2 (s1.trans s2)
end
end KM

set_option Elab.async false
set_option linter.all false
set_option maxRecDepth 100000
set_option maxHeartbeats 4000000
namespace KM
open PySem PySem.Spec PyProof.Rows L2 GL
/-! what is left, what tells two apart -/
def spLn (C : Addr) : Sp := fun vs H Q _ => ∃ m gs rs, vs = [.ref m] ∧ MovesAt C H m gs rs ∧ Fit gs rs ∧ ∀ x H', H x = none → MovesNew C H H' x gs (KN.leanL rs) → Same H H' → Q (.ref x) H'
theorem scLn : FnScope ["moves", "told", "position", "rest"] ["moves"] (defScope sLn) := ⟨rfl, rfl, rfl, by decide +kernel, rfl, by decide +kernel, by decide +kernel⟩
theorem scSg : FnScope ["one", "other"] ["one", "other"] (defScope sSg) := ⟨rfl, rfl, rfl, by decide +kernel, rfl, by decide +kernel, by decide +kernel⟩
abbrev nMa : List Str := ["left", "right", "goods", "conditions", "one", "other", "most", "chains"]
theorem scMa : FnScope nMa ["left", "right"] (defScope sMa) := ⟨rfl, rfl, rfl, by decide +kernel, rfl, by decide +kernel, by decide +kernel⟩
def contr (c : Row) : Row := (c.2.1, c.1, -c.2.2 - 1)
abbrev LowR (rs : List Row) : Prop := ∀ r ∈ rs, r.2.2.natAbs ≤ 60
/-- the told changes of a move of gs under C -/
structure Told (gs : List Str) (C : List Row) (g : Pt → Int) : Prop where
  z : g none = 0
  k : ∀ c ∈ C, g c.1 - g c.2.1 ≤ c.2.2
  b : ∀ p, (g p).natAbs ≤ 25000
def spSg (C : Addr) : Sp := fun vs H Q _ => ∃ l r gs rs ss, vs = [.ref l, .ref r] ∧ MovesAt C H l gs rs ∧ MovesAt C H r gs ss ∧ GoodGs gs ∧ ∀ H', Same H H' → Q .non H'
def spMa (C : Addr) : Sp := fun vs H Q _ => ∃ l r gs rs ss, vs = [.ref l, .ref r] ∧ MovesAt C H l gs rs ∧ MovesAt C H r gs ss ∧ Fit gs rs ∧ Fit gs ss ∧ LowR ss ∧
  (KN.ext rs ss = none → ∀ H', Same H H' → Q .non H') ∧
  (∀ c, KN.ext rs ss = some c → ∀ d H', H d = none → H' d = some (.dK (chgD gs (mvG gs (rs ++ [contr c])))) → Told gs (rs ++ [contr c]) (mvG gs (rs ++ [contr c])) → Same H H' → Q (.ref d) H')
theorem pair_at {H : Hp} : ∀ {as : List Addr} {rs : List Row} {i : Nat} {r : Row}, RowsIn H as rs → rs[i]? = some r → ∃ t, as[i]? = some t ∧ RowAt H t r
  | _, _, i, r, .nil, e => by simp at e
  | _, _, 0, r, .cons (a := a) (b := b) h _, e => by
    have e' : b = r := by simpa using e
    exact ⟨a, rfl, e' ▸ h⟩
  | _, _, i + 1, r, .cons _ t, e => by
    obtain ⟨u, a, b⟩ := pair_at (i := i) t (by simpa using e)
    exact ⟨u, by simpa using a, b⟩
section
variable {P : Program} {w : World} {K : PySem.W.Frag} {mg : Str → Option Value} {base : Heap} {C D : Addr}
theorem ok_lean {f : Addr} {fd : FuncData} (F : Fun K "lean" "lean" sLn f fd) (T : Bi mg) (M : Mv P w K mg base C) (IM : Has P w K mg base "_is_implied" 4 ["goods", "conditions", "condition"] (spIm P w D)) :
    FnG P w K mg base CX0 8 f fd ["moves"] (spLn C) := by
  refine okG F scLn (fun vs H Q E h => ?_) (fun cdv A out s H vs Q E g hr h => ?_)
  · obtain ⟨m, gs, rs, rfl, _⟩ := h
    rfl
  · obtain ⟨m, gs, rs, rfl, hm, fit, q⟩ := h
    obtain ⟨dx, fs, em, lk⟩ := hm.ins
    have hr7 : Room 7 _ := hr
    have hr4 : Room 4 _ := hr.mono (by decide)
    have hr1 : Room 1 _ := hr.mono (by decide)
    have ln := fit.n
    have szl := sizeLine_eq
    refine ⟨_, (pss_cons (ps_set (i := 1) scLn.nd rfl (.inl rfl) (pe_hasM0 M.conds M.cl g hr1 rfl (pv 0)))
      (pss_cons (ps_for PassesOwn.never rfl (pi_revR (by rfl) T.reversed (prg_1 (by rfl) T.range (pe_callB call_len_seq (by rfl) T.len PySem.boot_len (pa_cons (pv 1) pa_nil)))) (pg_name (i := 2) scLn.nd rfl (.inl rfl))
      (pss_cons (ps_set (i := 3) scLn.nd rfl (.inl rfl) (pe_op op_catL (pe_slice slcL (pv 1) po_none (po_some (pv 2))) (pe_slice slcL (pv 1) (po_some (pe_op op_add (pv 2) pe_int)) po_none)))
      (pss_one (ps_if (pt_val (pe_has IM g hr4 (by rfl) (pa_cons (pe_hasM0 M.goods M.cl g hr1 rfl (pv 0)) (pa_cons (pv 3) (pa_cons (pe_ix ix_list (pv 1) (pv 2) (fun _ _ => rfl)) pa_nil))))) (pss_one (ps_set (i := 1) scLn.nd rfl (.inl rfl) (pv 3))) pss_nil))))
      (pss_one (ps_ret (pe_hasC M.mk2 g hr7 (by rfl) M.gM (pa_cons (pe_hasM0 M.goods M.cl g hr1 rfl (pv 0)) (pa_cons (pv 1) pa_nil)) pk_nil))))), ?_⟩
    refine ⟨_, rfl, m, dx, fs, rfl, em, lk _ (by decide +kernel) (by decide +kernel), rfl, rfl, m, gs, rs, rfl, hm, fun R as H1 n1 e1 rows1 s1 => ?_⟩
    have la : (as.map V.ref).length = rs.length := by rw [List.length_map]; exact Paired.length rows1
    refine ⟨_, rfl, R, _, rfl, .inl (SqL.of e1), _, rfl, by omega, by omega, by omega, by omega, ?_⟩
    rw [la]
    refine for_rangeC (n := ((rs.length : Int) - 0).toNat) (fun i σ' H' => ∃ (R' : Addr) (t : List Row) (as' : List Addr) (x2 x3 : Option V), σ' = [some (.ref m), some (.ref R'), x2, x3] ∧ Same H H' ∧ H' R' = some (.lst (as'.map V.ref)) ∧ RowsIn H' as' t ∧ (∀ c ∈ t, c ∈ rs) ∧ t.length ≤ rs.length ∧ rs.length ≤ t.length + i ∧
      KN.leanN (rs.length - i) t = KN.leanL rs) ?_ ?_ ?_
    · exact ⟨R, rs, as, _, _, rfl, s1, e1, rows1, fun c h => h, Nat.le_refl _, by omega, rfl⟩
    · rintro i σ' H2 hi ⟨R', t, as', x2, x3, rfl, s2, e2, rows2, sub, lt1, lt2, el⟩
      obtain ⟨p, hp⟩ : ∃ p, p + 1 + i = rs.length := ⟨rs.length - 1 - i, by omega⟩
      have ev : (0 : Int) + (((rs.length : Int) - 0).toNat : Nat) - 1 + (i : Nat) * (-1) = ((p : Nat) : Int) := by omega
      rw [ev]
      have hpt : p < t.length := by omega
      have er : t[p]? = some t[p] := List.getElem?_eq_getElem hpt
      generalize t[p] = r at er
      have gr := fit.r r (sub r (List.mem_of_getElem? er))
      refine r_drop (i := p) rfl rfl e2 rows2 hpt (by omega) fun L2 bs H3 n3 e3 rows3 s3 => ?_
      have S3 := s2.trans s3
      refine ⟨_, rfl, m, dx, fs, rfl, S3 _ _ em, lk _ (by decide +kernel) (by decide +kernel), rfl, rfl, m, gs, rs, rfl, hm.same S3, fun G H4 nG eG sG => ?_⟩
      have S4 := S3.trans sG
      obtain ⟨tr, etr, eat⟩ := pair_at (rows_same rows2 (s3.trans sG)) er
      have cf : CFit gs (KN.wo t p) := by
        refine ⟨fit.g, fun x hx => fit.r x (sub x (KN.mem_wo hx)), ?_⟩
        have := KN.wo_len hpt
        omega
      have ea : (rs.length - i) = p + 1 := by omega
      have ea2 : (rs.length - (i + 1)) = p := by omega
      rw [ea] at el
      refine ⟨_, rfl, _, rfl, _, rfl, R', _, _, .ref tr, rfl, rfl, SqL.of ((s3.trans sG) _ _ e2), atI_map etr, rfl, rfl, G, L2, tr, gs, KN.wo t p, bs, r, rfl, eG, sG _ _ e3, rows_same rows3 sG, eat, cf, gr, fun im H5 s5 => ⟨_, rfl, iteT ?_⟩, fun im H5 s5 => ⟨_, rfl, iteF ?_⟩⟩
      · have nd : KN.Needl t p := ⟨r, er, im⟩
        rw [KN.leanN_yes nd] at el
        have wl := KN.wo_len hpt
        refine ⟨_, rfl, L2, KN.wo t p, bs, _, _, rfl, S4.trans s5, s5 _ _ (sG _ _ e3), rows_same rows3 (sG.trans s5), fun c h => sub c (KN.mem_wo h), by omega, by omega, by rw [ea2]; exact el⟩
      · have nd : ¬ KN.Needl t p := fun ⟨r', er', im'⟩ => by
          rw [er] at er'
          cases er'
          exact im im'
        rw [KN.leanN_no nd] at el
        exact ⟨R', t, as', _, _, rfl, S4.trans s5, ((s3.trans sG).trans s5) _ _ e2, rows_same rows2 ((s3.trans sG).trans s5), sub, lt1, by omega, by rw [ea2]; exact el⟩
    · rintro σ' H2 ⟨R', t, as', x2, x3, rfl, s2, e2, rows2, sub, lt1, lt2, el⟩
      have e0 : rs.length - ((rs.length : Int) - 0).toNat = 0 := by omega
      rw [e0] at el
      have el : t = KN.leanL rs := el
      subst el
      refine ⟨_, rfl, m, dx, fs, rfl, s2 _ _ em, lk _ (by decide +kernel) (by decide +kernel), rfl, rfl, m, gs, rs, rfl, hm.same s2, fun G H3 nG eG sG => ?_⟩
      refine ⟨_, rfl, rfl, rfl, ?_⟩
      refine q_new (K := K) (.inl (SqL.of eG)) (.inl (SqL.of (sG _ _ e2))) (rows_same rows2 sG) fit.g (fun r hr => fit.r r (sub r hr)) (by omega) fun x hs H4 nx pm fx mn s4 => ?_
      have ehs : hs = gs := sorted_one pm fx.s fit.s
      subst ehs
      exact q x H4 ((s2.trans sG).free nx) (mn.back (s2.trans sG)) ((s2.trans sG).trans s4)
theorem ok_same {f : Addr} {fd : FuncData} (F : Fun K "_check_same_goods" "_check_same_goods" sSg f fd) (T : Bi mg) (M : Mv P w K mg base C) : FnG P w K mg base CX0 2 f fd ["one", "other"] (spSg C) := by
  refine okG F scSg (fun vs H Q E h => ?_) (fun cdv A out s H vs Q E g hr h => ?_)
  · obtain ⟨l, r, gs, rs, ss, rfl, _⟩ := h
    rfl
  · obtain ⟨l, r, gs, rs, ss, rfl, hl, hr0, fit, q⟩ := h
    have hr1 : Room 1 _ := hr
    have hu := hr.units
    obtain ⟨dx, fs, el, lkl⟩ := hl.ins
    obtain ⟨dy, fz, er, lkr⟩ := hr0.ins
    refine ⟨_, (pss_one (ps_if (pt_cmpR (op_neD hu) (pe_hasM0 M.goods M.cl g hr1 rfl (pv 0)) (pe_hasM0 M.goods M.cl g hr1 rfl (pv 1)) (nomark _)) (pss_one L2.ps_never) pss_nil)), ?_⟩
    refine ⟨_, rfl, l, dx, fs, rfl, el, lkl _ (by decide +kernel) (by decide +kernel), rfl, rfl, l, gs, rs, rfl, hl, fun G H1 nG eG sG => ?_⟩
    refine ⟨_, rfl, r, dy, fz, rfl, sG _ _ er, lkr _ (by decide +kernel) (by decide +kernel), rfl, rfl, r, gs, ss, rfl, hr0.same sG, fun G2 H2 nG2 eG2 sG2 => ?_⟩
    refine ⟨gsD gs, gsD gs, dp_gs (SqL.of (sG2 _ _ eG)), dp_gs (SqL.of eG2), shaped_gs fit, shaped_gs fit, _, rfl, ?_⟩
    rw [eqv_gs, decide_eq_true rfl]
    exact iteF (q H2 (sG.trans sG2))
theorem contr_good {gs : List Str} {r : Row} (h : GoodRow gs r) (l : r.2.2.natAbs ≤ 60) : GoodRow gs (contr r) := ⟨fun e => h.ne e.symm, h.two, h.one, by show (-r.2.2 - 1).natAbs ≤ 100; omega⟩
theorem ok_apart {f : Addr} {fd : FuncData} (F : Fun K "_move_apart" "_move_apart" sMa f fd) (T : Bi mg) (M : Mv P w K mg base C) (V0 : Hv P w K mg base D) : FnG P w K mg base CX0 4 f fd ["left", "right"] (spMa C) := by
  refine okG F scMa (fun vs H Q E h => ?_) (fun cdv A out s H vs Q E g hr h => ?_)
  · obtain ⟨l, r, gs, rs, ss, rfl, _⟩ := h
    rfl
  · obtain ⟨l, r, gs, rs, ss, rfl, hl, hr0, fit, fit2, low, qn, qy⟩ := h
    have hr1 : Room 1 _ := hr.mono (by decide)
    have hr3 : Room 3 _ := hr
    have ln := fit.n
    have ln2 := fit2.n
    have szl := sizeLine_eq
    obtain ⟨dx, fs, el, lkl⟩ := hl.ins
    obtain ⟨dy, fz, er, lkr⟩ := hr0.ins
    refine ⟨_, (pss_cons (ps_par (i := 2) (j := 3) (by rfl) scMa.nd rfl rfl (by decide) rfl rfl (pa_cons (pe_hasM0 M.goods M.cl g hr1 rfl (pv 0)) (pa_cons (pe_hasM0 M.conds M.cl g hr1 rfl (pv 0)) pa_nil)) (by rfl))
      (pss_cons (ps_for PassesOwn.never rfl (pi_list (pe_hasM0 M.conds M.cl g hr1 rfl (pv 1))) (pg_tup rfl (pgs_cons (pg_name (i := 4) scMa.nd rfl (.inl rfl)) (pgs_cons (pg_name (i := 5) scMa.nd rfl (.inl rfl)) (pgs_cons (pg_name (i := 6) scMa.nd rfl (.inl rfl)) pgs_nil))))
      (pss_cons (ps_set (i := 7) scMa.nd rfl (.inl rfl) (pe_hasC V0.made g hr3 (by rfl) V0.gC (pa_cons (pv 2) (pa_cons (pe_op op_catL (pv 3) (pe_lstL (pa_cons (pe_tupL (pa_cons (pv 5) (pa_cons (pv 4) (pa_cons (pe_op op_sub (pe_un un_neg (pv 6)) pe_int) pa_nil)))) pa_nil))) pa_nil)) pk_nil))
      (pss_one (ps_if (pt_not (pt_val (pe_hasM0 V0.ring V0.cl g hr3 rfl (pv 7)))) (pss_one (ps_ret (pe_hasM0 V0.mv V0.cl g hr1 rfl (pv 7)))) pss_nil))))
      (pss_one (ps_ret pe_non)))), ?_⟩
    refine ⟨_, rfl, l, dx, fs, rfl, el, lkl _ (by decide +kernel) (by decide +kernel), rfl, rfl, l, gs, rs, rfl, hl, fun G H1 nG eG sG => ?_⟩
    refine ⟨_, rfl, l, dx, fs, rfl, sG _ _ el, lkl _ (by decide +kernel) (by decide +kernel), rfl, rfl, l, gs, rs, rfl, hl.same sG, fun R as H2 nR eR rowsR sR => ⟨_, _, rfl, ?_⟩⟩
    have S2 := sG.trans sR
    refine ⟨_, rfl, r, dy, fz, rfl, S2 _ _ er, lkr _ (by decide +kernel) (by decide +kernel), rfl, rfl, r, gs, ss, rfl, hr0.same S2, fun R2 bs H3 nR2 eR2 rowsR2 sR2 => ⟨R2, rfl, ⟨_, SqL.of eR2⟩, ?_⟩⟩
    have S3 := S2.trans sR2
    have lb : (bs.map V.ref).length = ss.length := by rw [List.length_map]; exact Paired.length rowsR2
    have la : (as.map V.ref).length = rs.length := by rw [List.length_map]; exact Paired.length rowsR
    refine for_list (K := K) (a := R2) (xs := bs.map V.ref) (fun j σ' H' => ∃ (x4 x5 x6 x7 : Option V), σ' = [some (.ref l), some (.ref r), some (.ref G), some (.ref R), x4, x5, x6, x7] ∧ Same H3 H' ∧ ∀ x ∈ ss.take j, KN.Imp rs x) ?_ ?_ ?_ ?_
    · exact ⟨_, _, _, _, rfl, Same.refl' _, fun x hx => by simp at hx⟩
    · rintro j σ' H' _ ⟨_, _, _, _, rfl, z, _⟩
      exact SqL.of (z _ _ eR2)
    · rintro j x σ' H4 hj ⟨_, _, _, _, rfl, s4, im⟩
      obtain ⟨tr, c, rfl, ec, et⟩ := rows_at (rows_same rowsR2 s4) hj
      have gc := contr_good (fit2.r c (List.mem_of_getElem? ec)) (low c (List.mem_of_getElem? ec))
      refine ⟨tr, _, rfl, SqT.of et, rfl, _, _, rfl, _, _, rfl, _, _, rfl, rfl, ?_⟩
      have T4 := (sR.trans sR2).trans s4
      refine ⟨_, rfl, _, rfl, _, rfl, _, rfl, _, rfl, _, rfl, _, _, rfl, rfl, by show 3 ≤ sizeLine; decide, fun u H5 nu eu su => ⟨by show 1 ≤ sizeLine; decide, fun L1 H6 n6 e6 s6 => ?_⟩⟩
      have T6 := (T4.trans su).trans s6
      have U6 := ((sR2.trans s4).trans su).trans s6
      refine ⟨R, L1, _, _, rfl, rfl, U6 _ _ eR, e6, by rw [la]; show rs.length + 1 ≤ sizeLine; omega, fun L2 H7 n7 e7 s7 => ?_⟩
      have T7 := T6.trans s7
      have U7 := U6.trans s7
      refine ⟨rfl, rfl, ?_⟩
      have cf : CFit gs (rs ++ [contr c]) := by
        refine ⟨fit.g, fun x hx => ?_, by simp; omega⟩
        rcases List.mem_append.mp hx with hx | hx
        · exact fit.r x hx
        · rw [List.mem_singleton.mp hx]
          exact gc
      have eu' : RowAt H7 u (contr c) := s7 _ _ (s6 _ _ eu)
      have e7' : H7 L2 = some (.lst ((as ++ [u]).map V.ref)) := by rw [e7]; simp
      refine q_chains (T7 _ _ eG) e7' (rows_app (rows_same rowsR U7) (.cons eu' .nil)) cf fun ch H8 n8 hc s8 => ?_
      have V8 : Same H H8 := (((sG.trans T6).trans s7).trans s8)
      obtain ⟨dz, fq, eo, lk⟩ := hc.ins
      refine ⟨_, rfl, ch, dz, fq, rfl, eo, lk _ (by decide +kernel) (by decide +kernel) (by decide +kernel) (by decide +kernel), rfl, rfl, ?_⟩
      have rc : KN.Ring (rs ++ [contr c]) ↔ KN.Imp rs c := KN.ring_contrary
      refine ⟨ch, gs, _, rfl, hc, cf, fun hg H9 s9 => ⟨_, rfl, iteF ?_⟩, fun hg H9 s9 => ⟨_, rfl, iteT ?_⟩⟩
      · refine ⟨_, _, _, _, rfl, (((s4.trans su).trans s6).trans s7).trans (s8.trans s9), fun x hx => ?_⟩
        rw [take_more ec] at hx
        rcases List.mem_append.mp hx with hx | hx
        · exact im x hx
        · rw [List.mem_singleton.mp hx]
          exact rc.mp hg
      · refine ⟨_, rfl, ch, dz, fq, rfl, s9 _ _ eo, lk _ (by decide +kernel) (by decide +kernel) (by decide +kernel) (by decide +kernel), rfl, rfl, ?_⟩
        refine ⟨ch, gs, _, rfl, hc.same s9, cf, hg, fun d H10 nd ed z k b s10 => ?_⟩
        exact qy c (KN.ext_at ec im fun z => hg (rc.mpr z)) d H10 ((V8.trans s9).free nd) ed ⟨z, k, b⟩ ((V8.trans s9).trans s10)
    · rintro σ' H4 ⟨_, _, _, _, rfl, s4, im⟩
      rw [lb, List.take_of_length_le (Nat.le_refl _)] at im
      exact qn (KN.ext_none.mpr im) H4 (S3.trans s4)
end
end KM

set_option Elab.async false
set_option linter.all false
set_option maxRecDepth 100000
set_option maxHeartbeats 4000000
namespace KM
open PySem PySem.Spec PyProof.Rows L2 GL
/-! Ratios of whole numbers -/
abbrev rm (i : Nat) : Stmt := inClass (top 33) i
abbrev sRo : Stmt := top 30
abbrev sNu : Stmt := top 29
structure Rc (K : PySem.W.Frag) (mg : Str → Option Value) (R : Addr) : Prop where
  gR : mg "Ratio" = some (.ref R)
  cl : Cls K R
  nT : NoAttr K R "_top"
  nB : NoAttr K R "_bottom"
  hc : PySem.W.findIn K (.ref R) "__class__" = some (some (.builtin "object.__class__"))
  hn : PySem.W.specialIn K (.builtin "object.__class__") "__get__" = some (some (.builtin "getset_descriptor.__get__"))
  ht : PySem.W.takesIn K (.builtin "object.__class__") = some true
  hm : PySem.W.mroIn K R (.type "object") = some true
  ki : PySem.W.kitOne K (.type "int") (.ref R) = some false
  ik : PySem.W.kitOne K (.ref R) (.type "int") = some false
  gcd : mg "gcd" = some (.builtin "math.gcd")
def rfl_ (i : Int) : List (Str × V) := putF "_bottom" (.int 1) (putF "_top" (.int i) [])
theorem rfl_t {i : Int} : (rfl_ i).lookup ("_top" : Str) = some (V.int i) := by
  unfold rfl_
  rw [lookup_putF, if_neg (by decide), lookup_putF, if_pos rfl]
theorem rfl_b {i : Int} : (rfl_ i).lookup ("_bottom" : Str) = some (V.int 1) := by
  unfold rfl_
  rw [lookup_putF, if_pos rfl]
theorem rfl_o {i : Int} {m : Str} (h1 : ¬ m = "_bottom") (h2 : ¬ m = "_top") : (rfl_ i).lookup m = none := by
  unfold rfl_
  rw [lookup_putF, if_neg h1, lookup_putF, if_neg h2]
  rfl
/-- the Ratio i stands at x -/
def RatAt (R : Addr) (H : Hp) (x : Addr) (i : Int) : Prop := ∃ dx, H x = some (.ins R dx (rfl_ i))
theorem RatAt.same {R : Addr} {H H' : Hp} {x : Addr} {i : Int} (h : RatAt R H x i) (s : Same H H') : RatAt R H' x i := by
  obtain ⟨dx, e⟩ := h
  exact ⟨dx, s _ _ e⟩
/-- a property that tells an attribute -/
structure HasP (P : Program) (w : World) (K : PySem.W.Frag) (mg : Str → Option Value) (base : Heap) (C : Addr) (nm fld : Str) : Prop where
  ex : ∃ p g fd, PropOf K C nm p g ∧ FnOk P w K mg base CX0 1 g fd ["self"] (getSp C fld) ∧ Binds K fd ["self"] []
theorem pe_hasP {X : Cx} {C : Addr} {f fld : Str} {e : Expr} {pos : Pos} {ta : TE} (h : HasP X.prog X.w X.K X.mg X.base C f fld) (c : Cls X.K C) (hr : Room 2 X.A) (he : PE X e ta) (hab : attributeBase e f X.env (eval e X.env) = eval e X.env := by rfl) :
    PE X (.Attribute e f pos) (tProp C (getSp C fld) [] E0 ta) := by
  obtain ⟨p, g, fd, hp, F, hb⟩ := h.ex
  exact pe_prop he c hp F hr hb .nil pass0 hab
def spRi (R : Addr) : Sp := fun vs H Q _ => ∃ (x dx : Addr) (i : Int), vs = [.ref x, .int i, .int 1] ∧ H x = some (.ins R dx []) ∧ ∀ H', RatAt R H' x i → But x H H' → Q .non H'
def spRo (R : Addr) : Sp := fun vs H Q _ => (∃ (x : Addr) (i : Int), vs = [.ref x] ∧ RatAt R H x i ∧ ∀ H', Same H H' → Q (.ref x) H') ∨ (∃ i : Int, vs = [.int i] ∧ ∀ x H', H x = none → RatAt R H' x i → Same H H' → Q (.ref x) H')
def spAm (R : Addr) : Sp := fun vs H Q _ => ∃ (x : Addr) (i m : Int), vs = [.ref x, .int m] ∧ RatAt R H x i ∧ ∀ H', Same H H' → Q (.bl (decide (i ≤ m))) H'
def spRa (R : Addr) (op : Int → Int → Int) : Sp := fun vs H Q _ => ∃ (x y : Addr) (i j : Int), vs = [.ref x, .ref y] ∧ RatAt R H x i ∧ RatAt R H y j ∧ ∀ z H', H z = none → RatAt R H' z (op i j) → Same H H' → Q (.ref z) H'
def reprR (i : Int) : Str := ("Ratio(" : Str) ++ (toString i : Str) ++ (", " : Str) ++ (toString (1 : Int) : Str) ++ (")" : Str)
def spRr (R : Addr) : Sp := fun vs H Q _ => ∃ (x : Addr) (i : Int), vs = [.ref x] ∧ RatAt R H x i ∧ i.natAbs ≤ 100000 ∧ ∀ H', Same H H' → Q (.str (reprR i)) H'
def spNuR (R : Addr) : Sp := fun vs H Q _ => ∃ (x : Addr) (i : Int), vs = [.ref x] ∧ RatAt R H x i ∧ ∀ H', Same H H' → Q (.bl true) H'
def spIntR (R : Addr) : Sp := fun vs H Q _ => ∃ (x : Addr) (i : Int), vs = [.ref x] ∧ RatAt R H x i ∧ ∀ H', Same H H' → Q (.bl false) H'
theorem scRi : FnScope ["self", "top", "bottom", "divisor"] ["self", "top", "bottom"] (defScope (rm 0)) := ⟨rfl, rfl, rfl, by decide +kernel, rfl, by decide +kernel, by decide +kernel⟩
theorem scRo : FnScope ["value"] ["value"] (defScope sRo) := ⟨rfl, rfl, rfl, by decide +kernel, rfl, by decide +kernel, by decide +kernel⟩
theorem scNu : FnScope ["value"] ["value"] (defScope sNu) := ⟨rfl, rfl, rfl, by decide +kernel, rfl, by decide +kernel, by decide +kernel⟩
theorem scAm : FnScope ["self", "other", "right"] ["self", "other"] (defScope (rm 9)) := ⟨rfl, rfl, rfl, by decide +kernel, rfl, by decide +kernel, by decide +kernel⟩
theorem scAd : FnScope ["self", "other", "right"] ["self", "other"] (defScope (rm 10)) := ⟨rfl, rfl, rfl, by decide +kernel, rfl, by decide +kernel, by decide +kernel⟩
theorem scSu : FnScope ["self", "other", "right"] ["self", "other"] (defScope (rm 12)) := ⟨rfl, rfl, rfl, by decide +kernel, rfl, by decide +kernel, by decide +kernel⟩
theorem scRr : FnScope ["self"] ["self"] (defScope (rm 19)) := ⟨rfl, rfl, rfl, by decide +kernel, rfl, by decide +kernel, by decide +kernel⟩
theorem q_rat {R : Addr} {Hc : Hp} {W : Addr → Hp → Prop} {i : Int} (h : ∀ x H', Hc x = none → RatAt R H' x i → Same Hc H' → W x H') :
    ∀ x dx, Hc x = none → Hc dx = none → dx ≠ x → spRi R [.ref x, .int i, .int 1] (upd (upd Hc dx (.own x)) x (.ins R dx [])) (fun v H3 => v = .non ∧ W x H3) E0 := by
  intro x dx nx ndx nex
  refine ⟨x, dx, i, rfl, upd_same, fun H' rt b => ⟨rfl, h x H' nx rt fun a o e => b _ _ (ne_of_none e nx) ?_⟩⟩
  rw [upd_ne (ne_of_none e nx), upd_ne (ne_of_none e ndx)]
  exact e
section
variable {P : Program} {w : World} {K : PySem.W.Frag} {mg : Str → Option Value} {base : Heap} {R : Addr}
theorem ok_rinit {f : Addr} {fd : FuncData} (F : FunD K "__init__" "Ratio.__init__" (defArgs (rm 0)) (defBody (rm 0)) (defScope (rm 0)) [.int 1] [] f fd) (T : Bi mg) (C : Rc K mg R) (I : Has P w K mg base "is_integer" 1 ["value"] spInt) :
    FnG P w K mg base CX0 2 f fd ["self", "top", "bottom"] (spRi R) := by
  refine okGD F scRi (fun vs H Q E h => ?_) (fun cdv A out s H vs Q E g hr h => ?_)
  · obtain ⟨x, dx, i, rfl, _⟩ := h
    rfl
  · obtain ⟨x, dx, i, rfl, hx, q⟩ := h
    have hr1 : Room 1 _ := hr
    refine ⟨_, (pss_cons (ps_if (pt_not (pt_val (pe_has I g hr1 (by rfl) (pa_cons (pv 1) pa_nil)))) (pss_one L2.ps_never) pss_nil)
      (pss_cons (ps_if (PW.pt (pw_or (pt_not (pt_val (pe_has I g hr1 (by rfl) (pa_cons (pv 2) pa_nil)))) (pw_or1 (pt_cmpR op_eq (pv 2) pe_int (nomark _))))) (pss_one L2.ps_never) pss_nil)
      (pss_cons (ps_set (i := 3) scRi.nd rfl (.inl rfl) (pe_callBfun cr_gcd (by rfl) C.gcd (pa_cons (pv 1) (pa_cons (pv 2) pa_nil))))
      (pss_cons (ps_if (pt_cmpR op_lt (pv 2) pe_int (nomark _)) (pss_one (ps_set (i := 3) scRi.nd rfl (.inl rfl) (pe_un un_neg (pv 3)))) pss_nil)
      (pss_cons (ps_fld (pv 0) (pe_op op_fdiv (pv 1) (pv 3)) rfl)
      (pss_one (ps_fld (pv 0) (pe_op op_fdiv (pv 2) (pv 3)) rfl))))))), ?_⟩
    refine ⟨_, rfl, rfl, rfl, i, rfl, fun H1 s1 => ⟨_, rfl, iteF ?_⟩⟩
    refine ⟨_, rfl, rfl, rfl, 1, rfl, fun H2 s2 => ⟨_, rfl, iteF ?_⟩⟩
    refine ⟨_, rfl, rfl, _, rfl, ?_⟩
    rw [decide_eq_false (by intro z; injection z with z; omega)]
    refine iteF ?_
    refine ⟨_, rfl, _, rfl, i, 1, rfl, ?_⟩
    rw [show (Nat.gcd i.natAbs (1 : Int).natAbs) = 1 from Nat.gcd_one_right _]
    refine ⟨_, rfl, _, _, rfl, rfl, _, rfl, ?_⟩
    rw [decide_eq_false (by omega)]
    refine iteF ?_
    have hx2 := s2 _ _ (s1 _ _ hx)
    refine ⟨_, rfl, _, rfl, _, _, rfl, rfl, ⟨by omega, by omega⟩, ?_⟩
    refine ⟨_, rfl, x, R, dx, _, rfl, hx2, C.cl, C.nT, by show 0 < 1000; decide, ?_⟩
    refine mk_upd fun H3 x3 b3 => ?_
    refine ⟨_, rfl, _, rfl, _, _, rfl, rfl, ⟨by omega, by omega⟩, ?_⟩
    refine ⟨_, rfl, x, R, dx, _, rfl, x3, C.cl, C.nB, by show 1 < 1000; decide, ?_⟩
    refine mk_upd fun H4 x4 b4 => ?_
    refine q H4 ⟨dx, ?_⟩ (((But.of (s1.trans s2)).trans b3).trans b4)
    rw [x4]
    unfold rfl_
    have e1 : ((1 : Nat) : Int) = 1 := rfl
    rw [e1]
    dsimp only
    rw [Int.ediv_one, Int.ediv_one]
theorem ok_intR {f : Addr} {fd : FuncData} (F : Fun K "is_integer" "is_integer" sInt f fd) (T : Bi mg) (C : Rc K mg R) : FnG P w K mg base CX0 1 f fd ["value"] (spIntR R) := by
  refine okG F scInt (fun vs H Q E h => ?_) (fun cdv A out s H vs Q E g hr h => ?_)
  · obtain ⟨x, i, rfl, _⟩ := h
    rfl
  · obtain ⟨x, i, rfl, ⟨dx, ex⟩, q⟩ := h
    refine ⟨_, (pss_one (ps_ret (pe_and (pe_callB call_isi (by rfl) T.isinstance (by decide +kernel) (pa_cons (pv 0) (pa_cons (pe_bltn (v := .ty "int") (u := .type "int") (by rfl) T.int (by decide +kernel) rfl) pa_nil))) (pe_one (pe_not (pe_callB call_isi (by rfl) T.isinstance (by decide +kernel) (pa_cons (pv 0) (pa_cons (pe_bltn (v := .ty "bool") (u := .type "bool") (by rfl) T.bool (by decide +kernel) rfl) pa_nil)))))))), ?_⟩
    exact ⟨_, rfl, .ref x, .ty "int", .ref R, .type "int", false, rfl, .ty "int", .base (.ins ex C.cl C.hc C.hn C.ht C.hm), C.ik, false, rfl, q _ (Same.refl' _)⟩
theorem ok_numR {f : Addr} {fd : FuncData} (F : Fun K "is_number" "is_number" sNu f fd) (T : Bi mg) (C : Rc K mg R) (I : Has P w K mg base "is_integer" 1 ["value"] (spIntR R)) : FnG P w K mg base CX0 2 f fd ["value"] (spNuR R) := by
  refine okG F scNu (fun vs H Q E h => ?_) (fun cdv A out s H vs Q E g hr h => ?_)
  · obtain ⟨x, i, rfl, _⟩ := h
    rfl
  · obtain ⟨x, i, rfl, rt, q⟩ := h
    have hr1 : Room 1 _ := hr
    refine ⟨_, (pss_one (ps_ret (pe_or (pe_has I g hr1 (by rfl) (pa_cons (pv 0) pa_nil)) (pe_one (pe_callB call_isi (by rfl) T.isinstance (by decide +kernel) (pa_cons (pv 0) (pa_cons (pe_glob (v := .ref R) (by rfl) C.gR rfl) pa_nil))))))), ?_⟩
    refine ⟨_, rfl, rfl, rfl, x, i, rfl, rt, fun H1 s1 => ⟨false, rfl, ?_⟩⟩
    obtain ⟨dx, ex⟩ := rt.same s1
    exact ⟨_, rfl, .ref x, .ref R, .ref R, .ref R, true, rfl, .own R, .base (.ins ex C.cl C.hc C.hn C.ht C.hm), kit_own, q _ s1⟩
theorem ok_ratio_of {f : Addr} {fd : FuncData} (F : Fun K "ratio_of" "ratio_of" sRo f fd) (T : Bi mg) (C : Rc K mg R) (MK : HasC P w K mg base R 2 ["self", "top", "bottom"] (spRi R) 1 [] (fun vs _ => vs ++ [.int 1])) :
    FnG P w K mg base CX0 4 f fd ["value"] (spRo R) := by
  refine okG F scRo (fun vs H Q E h => ?_) (fun cdv A out s H vs Q E g hr h => ?_)
  · rcases h with ⟨x, i, rfl, _⟩ | ⟨i, rfl, _⟩ <;> rfl
  · have hr3 : Room 3 _ := hr
    rcases h with ⟨x, i, rfl, ⟨dx, ex⟩, q⟩ | ⟨i, rfl, q⟩
    · refine ⟨_, (pss_cons (ps_if (pt_val (pe_callB call_isi (by rfl) T.isinstance (by decide +kernel) (pa_cons (pv 0) (pa_cons (pe_glob (v := .ref R) (by rfl) C.gR rfl) pa_nil)))) (pss_one (ps_ret (pv 0))) pss_nil)
      (pss_one (ps_ret (pe_hasC MK g hr3 (by rfl) C.gR (pa_cons (pv 0) pa_nil) pk_nil)))), ?_⟩
      exact ⟨_, rfl, .ref x, .ref R, .ref R, .ref R, true, rfl, .own R, .base (.ins ex C.cl C.hc C.hn C.ht C.hm), kit_own, _, rfl, iteT ⟨_, rfl, q _ (Same.refl' _)⟩⟩
    · refine ⟨_, (pss_cons (ps_if (pt_val (pe_callB call_isi (by rfl) T.isinstance (by decide +kernel) (pa_cons (pv 0) (pa_cons (pe_glob (v := .ref R) (by rfl) C.gR rfl) pa_nil)))) (pss_one (ps_ret (pv 0))) pss_nil)
      (pss_one (ps_ret (pe_hasC MK g hr3 (by rfl) C.gR (pa_cons (pv 0) pa_nil) pk_nil)))), ?_⟩
      refine ⟨_, rfl, .int i, .ref R, .type "int", .ref R, false, rfl, .own R, .base (.int i), C.ki, _, rfl, iteF ?_⟩
      refine ⟨_, rfl, rfl, rfl, ?_⟩
      exact q_rat fun x H' n rt s' => q x H' n rt s'
theorem ok_atmost {f : Addr} {fd : FuncData} (F : Fun K "is_at_most" "Ratio.is_at_most" (rm 9) f fd) (T : Bi mg) (C : Rc K mg R) (RO : Has P w K mg base "ratio_of" 4 ["value"] (spRo R)) (PT : HasP P w K mg base R "top" "_top") (PB : HasP P w K mg base R "bottom" "_bottom") :
    FnG P w K mg base CX0 5 f fd ["self", "other"] (spAm R) := by
  refine okG F scAm (fun vs H Q E h => ?_) (fun cdv A out s H vs Q E g hr h => ?_)
  · obtain ⟨x, i, m, rfl, _⟩ := h
    rfl
  · obtain ⟨x, i, m, rfl, ⟨dx, ex⟩, q⟩ := h
    have hr4 : Room 4 _ := hr
    have hr2 : Room 2 _ := hr.mono (by decide)
    refine ⟨_, (pss_cons (ps_set (i := 2) scAm.nd rfl (.inl rfl) (pe_has RO g hr4 (by rfl) (pa_cons (pv 1) pa_nil)))
      (pss_one (ps_ret (pe_cmpR op_le (pe_op op_mul (pe_fld (pv 0) rfl) (pe_hasP PB C.cl hr2 (pv 2))) (pe_op op_mul (pe_hasP PT C.cl hr2 (pv 2)) (pe_fld (pv 0) rfl)) (nomark _))))), ?_⟩
    refine ⟨_, rfl, rfl, rfl, .inr ⟨m, rfl, fun y H1 n1 ⟨dy, ey⟩ s1 => ?_⟩⟩
    have ex1 := s1 _ _ ex
    refine ⟨_, rfl, x, R, dx, _, _, rfl, ex1, C.cl, C.nT, rfl_t, _, rfl, y, dy, _, rfl, ey, y, dy, _, _, rfl, ey, rfl_b, _, _, rfl, rfl, .inr ⟨by decide, by decide⟩, ?_⟩
    refine ⟨_, rfl, y, dy, _, rfl, ey, y, dy, _, _, rfl, ey, rfl_t, _, rfl, x, R, dx, _, _, rfl, ex1, C.cl, C.nB, rfl_b, _, _, rfl, rfl, .inr ⟨by decide, by decide⟩, _, _, rfl, rfl, ?_⟩
    show Q (V.bl (decide (i * 1 ≤ m * 1))) H1
    rw [Int.mul_one, Int.mul_one]
    exact q H1 s1
theorem ok_radd {f : Addr} {fd : FuncData} (F : Fun K "__add__" "Ratio.__add__" (rm 10) f fd) (T : Bi mg) (C : Rc K mg R) (RO : Has P w K mg base "ratio_of" 4 ["value"] (spRo R)) (PT : HasP P w K mg base R "top" "_top") (PB : HasP P w K mg base R "bottom" "_bottom")
    (MK2 : HasC P w K mg base R 2 ["self", "top", "bottom"] (spRi R) 2 [] (fun vs _ => vs)) :
    FnG P w K mg base CX0 5 f fd ["self", "other"] (spRa R fun i j => i + j) := by
  refine okG F scAd (fun vs H Q E h => ?_) (fun cdv A out s H vs Q E g hr h => ?_)
  · obtain ⟨x, y, i, j, rfl, _⟩ := h
    rfl
  · obtain ⟨x, y, i, j, rfl, ⟨dx, ex⟩, ry, q⟩ := h
    have hr4 : Room 4 _ := hr
    have hr3 : Room 3 _ := hr.mono (by decide)
    have hr2 : Room 2 _ := hr.mono (by decide)
    refine ⟨_, (pss_cons (ps_set (i := 2) scAd.nd rfl (.inl rfl) (pe_has RO g hr4 (by rfl) (pa_cons (pv 1) pa_nil)))
      (pss_one (ps_ret (pe_hasC MK2 g hr3 (by rfl) C.gR (pa_cons (pe_op op_add (pe_op op_mul (pe_fld (pv 0) rfl) (pe_hasP PB C.cl hr2 (pv 2))) (pe_op op_mul (pe_hasP PT C.cl hr2 (pv 2)) (pe_fld (pv 0) rfl))) (pa_cons (pe_op op_mul (pe_fld (pv 0) rfl) (pe_hasP PB C.cl hr2 (pv 2))) pa_nil)) pk_nil)))), ?_⟩
    refine ⟨_, rfl, rfl, rfl, .inl ⟨y, j, rfl, ry, fun H1 s1 => ?_⟩⟩
    obtain ⟨dy, ey⟩ := ry.same s1
    have ex1 := s1 _ _ ex
    refine ⟨_, rfl, x, R, dx, _, _, rfl, ex1, C.cl, C.nT, rfl_t, _, rfl, y, dy, _, rfl, ey, y, dy, _, _, rfl, ey, rfl_b, _, _, rfl, rfl, .inr ⟨by decide, by decide⟩, ?_⟩
    refine ⟨_, rfl, y, dy, _, rfl, ey, y, dy, _, _, rfl, ey, rfl_t, _, rfl, x, R, dx, _, _, rfl, ex1, C.cl, C.nB, rfl_b, _, _, rfl, rfl, .inr ⟨by decide, by decide⟩, _, _, rfl, rfl, ?_⟩
    refine ⟨_, rfl, x, R, dx, _, _, rfl, ex1, C.cl, C.nB, rfl_b, _, rfl, y, dy, _, rfl, ey, y, dy, _, _, rfl, ey, rfl_b, _, _, rfl, rfl, .inr ⟨by decide, by decide⟩, rfl, rfl, ?_⟩
    have e1 : i * 1 + j * 1 = i + j := by omega
    have e2 : (1 : Int) * 1 = 1 := rfl
    dsimp only
    rw [e1, e2]
    exact q_rat fun z H' n rt s' => q z H' (s1.free n) rt (s1.trans s')
theorem ok_rsub {f : Addr} {fd : FuncData} (F : Fun K "__sub__" "Ratio.__sub__" (rm 12) f fd) (T : Bi mg) (C : Rc K mg R) (RO : Has P w K mg base "ratio_of" 4 ["value"] (spRo R)) (PT : HasP P w K mg base R "top" "_top") (PB : HasP P w K mg base R "bottom" "_bottom")
    (MK2 : HasC P w K mg base R 2 ["self", "top", "bottom"] (spRi R) 2 [] (fun vs _ => vs)) :
    FnG P w K mg base CX0 5 f fd ["self", "other"] (spRa R fun i j => i - j) := by
  refine okG F scSu (fun vs H Q E h => ?_) (fun cdv A out s H vs Q E g hr h => ?_)
  · obtain ⟨x, y, i, j, rfl, _⟩ := h
    rfl
  · obtain ⟨x, y, i, j, rfl, ⟨dx, ex⟩, ry, q⟩ := h
    have hr4 : Room 4 _ := hr
    have hr3 : Room 3 _ := hr.mono (by decide)
    have hr2 : Room 2 _ := hr.mono (by decide)
    refine ⟨_, (pss_cons (ps_set (i := 2) scSu.nd rfl (.inl rfl) (pe_has RO g hr4 (by rfl) (pa_cons (pv 1) pa_nil)))
      (pss_one (ps_ret (pe_hasC MK2 g hr3 (by rfl) C.gR (pa_cons (pe_op op_sub (pe_op op_mul (pe_fld (pv 0) rfl) (pe_hasP PB C.cl hr2 (pv 2))) (pe_op op_mul (pe_hasP PT C.cl hr2 (pv 2)) (pe_fld (pv 0) rfl))) (pa_cons (pe_op op_mul (pe_fld (pv 0) rfl) (pe_hasP PB C.cl hr2 (pv 2))) pa_nil)) pk_nil)))), ?_⟩
    refine ⟨_, rfl, rfl, rfl, .inl ⟨y, j, rfl, ry, fun H1 s1 => ?_⟩⟩
    obtain ⟨dy, ey⟩ := ry.same s1
    have ex1 := s1 _ _ ex
    refine ⟨_, rfl, x, R, dx, _, _, rfl, ex1, C.cl, C.nT, rfl_t, _, rfl, y, dy, _, rfl, ey, y, dy, _, _, rfl, ey, rfl_b, _, _, rfl, rfl, .inr ⟨by decide, by decide⟩, ?_⟩
    refine ⟨_, rfl, y, dy, _, rfl, ey, y, dy, _, _, rfl, ey, rfl_t, _, rfl, x, R, dx, _, _, rfl, ex1, C.cl, C.nB, rfl_b, _, _, rfl, rfl, .inr ⟨by decide, by decide⟩, _, _, rfl, rfl, ?_⟩
    refine ⟨_, rfl, x, R, dx, _, _, rfl, ex1, C.cl, C.nB, rfl_b, _, rfl, y, dy, _, rfl, ey, y, dy, _, _, rfl, ey, rfl_b, _, _, rfl, rfl, .inr ⟨by decide, by decide⟩, rfl, rfl, ?_⟩
    have e1 : i * 1 - j * 1 = i - j := by omega
    have e2 : (1 : Int) * 1 = 1 := rfl
    dsimp only
    rw [e1, e2]
    exact q_rat fun z H' n rt s' => q z H' (s1.free n) rt (s1.trans s')
theorem int_small {i : Int} (h : i.natAbs ≤ 100000) : i.natAbs.log2 < 1920 ∧ (toString i : Str).length ≤ 7 := by
  constructor
  · by_cases z : i.natAbs = 0
    · rw [z]; decide
    · exact Nat.lt_of_lt_of_le ((Nat.log2_lt z).mpr (by omega : i.natAbs < 2 ^ 17)) (by decide)
  · have q : (toString i).length ≤ 6 + 1 := int_text_length_le10 (k := 6) (by decide) (by omega)
    have e := PySem.ofString_length (toString i)
    show (Str.ofString (toString i)).length ≤ 7
    omega
theorem ok_rrepr {f : Addr} {fd : FuncData} (F : Fun K "__repr__" "Ratio.__repr__" (rm 19) f fd) (T : Bi mg) (C : Rc K mg R) : FnOk P w K mg base CX0 1 f fd ["self"] (spRr R) := by
  refine F.ok scRr (fun vs H Q E h => ?_) (fun cdv A out s H vs Q E hr h => ?_)
  · obtain ⟨x, i, rfl, _⟩ := h
    rfl
  · obtain ⟨x, i, rfl, ⟨dx, ex⟩, hi, q⟩ := h
    obtain ⟨a1, a2⟩ := int_small hi
    have sz := sizeLine_eq
    have l1 : ("Ratio(" : Str).length = 6 := rfl
    have l2 : (", " : Str).length = 2 := rfl
    have l3 : (")" : Str).length = 1 := rfl
    have l0 : (Str.empty).length = 0 := rfl
    have l5 : (toString (1 : Int) : Str).length = 1 := by decide +kernel
    have k0 : Str.empty ++ ("Ratio(" : Str) = ("Ratio(" : Str) := rfl
    refine ⟨_, (pss_one (ps_ret (pe_joined (.cons pe_str (.cons (pe_fmt (pe_fld (pv 0) rfl)) (.cons pe_str (.cons (pe_fmt (pe_fld (pv 0) rfl)) (.cons pe_str .nil)))))))), ?_⟩
    refine ⟨_, rfl, by rw [k0]; omega, ?_⟩
    rw [k0]
    refine ⟨_, rfl, x, R, dx, _, _, rfl, ex, C.cl, C.nT, rfl_t, .inr ⟨i, rfl, a1, _, rfl, by rw [Str.length_append]; omega, ?_⟩⟩
    refine ⟨_, rfl, by rw [Str.length_append, Str.length_append]; omega, ?_⟩
    refine ⟨_, rfl, x, R, dx, _, _, rfl, ex, C.cl, C.nB, rfl_b, .inr ⟨1, rfl, by decide, _, rfl, by simp only [Str.length_append]; omega, ?_⟩⟩
    refine ⟨_, rfl, by simp only [Str.length_append]; omega, ?_⟩
    exact q H (Same.refl' _)
end
end KM

set_option Elab.async false
set_option linter.all false
set_option maxRecDepth 100000
set_option maxHeartbeats 4000000
namespace KM
open PySem PySem.Spec PyProof.Rows L2 GL
/-! changes that are Ratios; what keeps them; what tells two apart -/
abbrev sKa : Stmt := top 26
abbrev sAj : Stmt := top 35
abbrev sPb : Stmt := top 44
abbrev sIsm : Stmt := top 45
abbrev sAl : Stmt := top 50
abbrev sPa : Stmt := top 51
/-- a dict from the goods to Ratios -/
def RatD (R : Addr) (H : Hp) (d : Addr) (gs : List Str) (g : Pt → Int) : Prop := ∃ ad : Str → Addr, H d = some (.dK (gs.map fun x => ((Sum.inr x : L2.Key), V.ref (ad x)))) ∧ ∀ x ∈ gs, RatAt R H (ad x) (g (some x))
theorem RatD.same {R : Addr} {H H' : Hp} {d : Addr} {gs : List Str} {g : Pt → Int} (h : RatD R H d gs g) (s : Same H H') : RatD R H' d gs g := by
  obtain ⟨ad, e, r⟩ := h
  exact ⟨ad, s _ _ e, fun x hx => (r x hx).same s⟩
theorem strs_val {l : List Str} {f : Str → V} {x : Str} (h : x ∈ l) : valV (l.map fun y => ((Sum.inr y : L2.Key), f y)) (Sum.inr x) = some (f x) := by
  induction l with
  | nil => cases h
  | cons a r ih =>
    by_cases e : x = a
    · subst e
      exact valV_pos rfl
    · have h1 : ¬ (Sum.inr a : L2.Key) = Sum.inr x := fun z => e (by cases z; rfl)
      exact (valV_neg (p := ((Sum.inr a : L2.Key), f a)) h1).trans (ih ((List.mem_cons.mp h).resolve_left e))
abbrev nAj : List Str := ["names", "value", "name"]
/-- a dict locked, what is made meanwhile, the dict unlocked -/
theorem same_unlock {H H' : Hp} {d : Addr} {od : Obj} {u : HO} (e : H d = some u) (s : Same (upd H d (.frz od u)) H') : Same H (upd H' d u) := fun a o h => by
  by_cases z : a = d
  · subst z
    rw [e] at h
    rw [upd_same]
    exact h
  · rw [upd_ne z]
    exact s _ _ (by rw [upd_ne z]; exact h)
abbrev nKa : List Str := ["names", "value", "key"]
theorem scKa : FnScope nKa ["names", "value"] (defScope sKa) := ⟨rfl, rfl, rfl, by decide +kernel, rfl, by decide +kernel, by decide +kernel⟩
theorem scAj : FnScope nAj ["names", "value"] (defScope sAj) := ⟨rfl, rfl, rfl, by decide +kernel, rfl, by decide +kernel, by decide +kernel⟩
def spAj (R : Addr) : Sp := fun vs H Q _ => ∃ (G d : Addr) (gs : List Str) (g : Pt → Int), vs = [.ref G, .ref d] ∧ H G = some (.lst (gs.map V.str)) ∧ RatD R H d gs g ∧ gs.length ≤ 4 ∧ ∀ H', Same H H' → Q (.bl true) H'
section
variable {P : Program} {w : World} {K : PySem.W.Frag} {mg : Str → Option Value} {base : Heap} {C D R : Addr}
theorem ok_keyed {f : Addr} {fd : FuncData} (F : Fun K "is_keyed_among" "is_keyed_among" sKa f fd) (T : Bi mg) (AM : Has P w K mg base "is_among" 1 ["names", "value"] (spAmo K)) : FnG P w K mg base CX0 2 f fd ["names", "value"] (spAj R) := by
  refine okG F scKa (fun vs H Q E h => ?_) (fun cdv A out s H vs Q E g hr h => ?_)
  · obtain ⟨G, d, gs, g, rfl, _⟩ := h
    rfl
  · obtain ⟨G, d, gs, gg, rfl, eG, ⟨ad, ed, rt⟩, l2, q⟩ := h
    have hr1 : Room 1 _ := hr
    have szl := sizeLine_eq
    refine ⟨_, (pss_one (ps_ret (pe_and (pe_callB call_isi (by rfl) T.isinstance (by decide +kernel) (pa_cons (pv 1) (pa_cons (pe_bltn (v := .ty "dict") (u := .type "dict") (by rfl) T.dict (by decide +kernel) rfl) pa_nil))) (pe_one (pe_callB (cr_all (by rfl)) (by rfl) T.all (by decide +kernel) (pa_cons (pe_lock (pe_lc (own := [("key", 2)]) (g := gName 2) (tt := tYes) (te := tGo (["names", "value"] : List Str).length 0 (spAmo K) (fun vs _ => vs) E0 (tCons (tVar 0) (tCons (tVar 2) tNil)) tNil) (by rfl) scKa.nd (pi_keys (pv 1)) (blkOk_by (own := [("key", 2)]) (N := nKa) (sc := defScope sKa) (by decide +kernel)) (fun _ _ _ _ _ => by exact (pg_name (i := 2) scKa.nd rfl (.inl rfl))) (fun _ _ _ _ _ => pts_nil) (fun _ _ _ _ _ => by exact (pe_has AM g hr1 (by rfl) (pa_cons (pv 0) (pa_cons (pv 2) pa_nil)))))) pa_nil)))))), ?_⟩
    refine ⟨_, rfl, .ref d, .ty "dict", .type "dict", .type "dict", true, rfl, .ty "dict", .base (.dK ed), kit_ty (by decide +kernel), true, rfl, ?_⟩
    refine ⟨d, _, ed, trivial, fun od => ?_⟩
    have eF : (upd H d (.frz od (.dK (gs.map fun x => ((Sum.inr x : L2.Key), V.ref (ad x)))))) d = some (.frz od (.dK (gs.map fun x => ((Sum.inr x : L2.Key), V.ref (ad x))))) := upd_same
    have eGF : (upd H d (.frz od (.dK (gs.map fun x => ((Sum.inr x : L2.Key), V.ref (ad x)))))) G = some (.lst (gs.map V.str)) := by rw [upd_ne (ne_of eG ed (by intro z; cases z))]; exact eG
    have unl : ∀ {H' : Hp}, Same (upd H d (.frz od (.dK (gs.map fun x => ((Sum.inr x : L2.Key), V.ref (ad x)))))) H' → Same H (upd H' d (.dK (gs.map fun x => ((Sum.inr x : L2.Key), V.ref (ad x))))) := fun {H'} z => same_unlock ed z
    generalize upd H d (.frz od (.dK (gs.map fun x => ((Sum.inr x : L2.Key), V.ref (ad x))))) = HF at eF eGF unl
    refine ⟨_, rfl, d, od, rfl, .inl ⟨_, eF, ?_⟩⟩
    intro L nL
    refine lc_it (walk_keys (d := d) (o := od) (kvs := gs.map fun x => ((Sum.inr x : L2.Key), V.ref (ad x)))) (fun i H' => Same HF H' ∧ H' L = some (.lst ((List.replicate i true).map V.bl))) ⟨same_new (Same.refl' _) nL, upd_same⟩ (fun i H' _ ⟨z, _⟩ => z _ _ eF) ?_ ?_
    · rintro i x H2 H3 hi ⟨s2, e2⟩ ⟨rfl, k, v, ek, rfl⟩
      rw [List.length_map] at hi
      have ei : (gs.map fun x => ((Sum.inr x : L2.Key), V.ref (ad x)))[i]? = some (Sum.inr gs[i], V.ref (ad gs[i])) := by
        rw [List.getElem?_map, List.getElem?_eq_getElem hi]
        rfl
      have my : gs[i] ∈ gs := List.getElem_mem hi
      generalize gs[i] = y at ei my
      rw [ei] at ek
      cases ek
      refine ⟨rfl, yes_go ?_⟩
      refine ⟨_, rfl, _, rfl, rfl, rfl, y, G, gs, rfl, .inl (SqL.of (s2 _ _ eGF)), fun H4 s4 => ?_⟩
      rw [in_strs my]
      refine ⟨_, s4 _ _ e2, by rw [List.length_map, List.length_replicate]; exact small1000 (by omega), same_but (s2.trans s4) But.refl.upd nL, ?_⟩
      rw [upd_same, List.replicate_succ', List.map_append]
      rfl
    · rintro H2 ⟨s2, e2⟩
      refine ⟨s2 _ _ eF, ?_⟩
      have edF := s2 _ _ eF
      have su := unl s2
      have e3 : (upd H2 d (.dK (gs.map fun x => ((Sum.inr x : L2.Key), V.ref (ad x))))) L = some (.lst ((List.replicate (gs.map fun x => ((Sum.inr x : L2.Key), V.ref (ad x))).length true).map V.bl)) := by rw [upd_ne (ne_of e2 edF (by intro z; cases z))]; exact e2
      generalize upd H2 d (.dK (gs.map fun x => ((Sum.inr x : L2.Key), V.ref (ad x)))) = H3 at su e3
      refine ⟨L, _, rfl, SqL.of e3, ?_⟩
      have z : (List.replicate (gs.map fun x => ((Sum.inr x : L2.Key), V.ref (ad x))).length true).all id = true := by simp
      show Q (V.bl ((List.replicate (gs.map fun x => ((Sum.inr x : L2.Key), V.ref (ad x))).length true).all id)) H3
      rw [z]
      exact q H3 su
theorem ok_just {f : Addr} {fd : FuncData} (F : Fun K "are_of_just" "are_of_just" sAj f fd) (T : Bi mg) (KA : Has P w K mg base "is_keyed_among" 2 ["names", "value"] (spAj R)) (N : Has P w K mg base "is_number" 2 ["value"] (spNuR R)) : FnG P w K mg base CX0 3 f fd ["names", "value"] (spAj R) := by
  refine okG F scAj (fun vs H Q E h => ?_) (fun cdv A out s H vs Q E g hr h => ?_)
  · obtain ⟨G, d, gs, g, rfl, _⟩ := h
    rfl
  · obtain ⟨G, d, gs, gg, rfl, eG, ⟨ad, ed, rt⟩, l2, q⟩ := h
    have hr2 : Room 2 _ := hr
    have szl := sizeLine_eq
    refine ⟨_, (pss_cons (ps_if (PW.pt (pw_or (pt_not (pt_val (pe_has KA g hr2 (by rfl) (pa_cons (pv 0) (pa_cons (pv 1) pa_nil))))) (pw_or1 (pt_cmpR op_ne (pe_callB call_lenD (by rfl) T.len PySem.boot_len (pa_cons (pv 1) pa_nil)) (pe_callB call_len_seq (by rfl) T.len PySem.boot_len (pa_cons (pv 0) pa_nil)) (nomark _))))) (pss_one (ps_ret pe_bl)) pss_nil)
      (pss_one (ps_ret (pe_callB (cr_all (by rfl)) (by rfl) T.all (by decide +kernel) (pa_cons (pe_lc (own := [("name", 2)]) (g := gName 2) (tt := tYes) (te := tGo (["value"] : List Str).length 0 (spNuR R) (fun vs _ => vs) E0 (tCons (tDGet (tVar 1) (tVar 2)) tNil) tNil) (by rfl) scAj.nd (pi_list (pv 0)) (blkOk_by (own := [("name", 2)]) (N := nAj) (sc := defScope sAj) (by decide +kernel)) (fun _ _ _ _ _ => by exact (pg_name (i := 2) scAj.nd rfl (.inl rfl))) (fun _ _ _ _ _ => pts_nil) (fun _ _ _ _ _ => by exact (pe_has N g hr2 (by rfl) (pa_cons (pe_dget (by have := hr.units; exact Nat.lt_of_le_of_lt (Nat.add_le_add_left (by decide) _) this) (pv 1) (pv 2) (fun _ _ => rfl)) pa_nil)))) pa_nil))))), ?_⟩
    refine ⟨_, rfl, _, rfl, rfl, rfl, G, d, gs, gg, rfl, eG, ⟨ad, ed, rt⟩, l2, fun H0 s0 => ⟨_, rfl, iteF ?_⟩⟩
    have eG0 := s0 _ _ eG
    have ed0 := s0 _ _ ed
    have rt0 : ∀ x ∈ gs, RatAt R H0 (ad x) (gg (some x)) := fun x hx => (rt x hx).same s0
    refine ⟨_, rfl, d, _, rfl, ed0, _, rfl, G, _, rfl, .inl (SqL.of eG0), rfl, _, rfl, ?_⟩
    rw [List.length_map, List.length_map, decide_eq_true rfl]
    refine iteF ?_
    refine ⟨_, rfl, G, rfl, ⟨_, SqL.of eG0⟩, fun L nL => ?_⟩
    refine lc_it (walk_list (K := K) (a := G) (xs := gs.map V.str)) (fun i H' => Same H0 H' ∧ H' L = some (.lst ((List.replicate i true).map V.bl))) ⟨same_new (Same.refl' _) nL, upd_same⟩ (fun i H' _ ⟨z, _⟩ => SqL.of (z _ _ eG0)) ?_ ?_
    · rintro i x H1 H2 hi ⟨s1, e1⟩ ⟨rfl, hx⟩
      obtain ⟨y, hy, rfl⟩ := get_map hx
      have my := List.mem_of_getElem? hy
      have hi' : i < gs.length := (List.getElem?_eq_some_iff.mp hy).1
      refine ⟨rfl, yes_go ?_⟩
      refine ⟨_, rfl, _, rfl, d, .ref (ad y), rfl, ?_, rfl, rfl, ?_⟩
      · have z := DGet.k (k := Sum.inr y) (s1 _ _ ed0)
        rw [strs_val my] at z
        exact z
      refine ⟨ad y, gg (some y), rfl, (rt0 y my).same s1, fun H3 s3 => ⟨_, s3 _ _ e1, by rw [List.length_map, List.length_replicate]; exact small1000 (by omega), same_but (s1.trans s3) But.refl.upd nL, ?_⟩⟩
      rw [upd_same, List.replicate_succ', List.map_append]
      rfl
    · rintro H1 ⟨s1, e1⟩
      refine ⟨L, _, rfl, SqL.of e1, ?_⟩
      have z : (List.replicate (gs.map V.str).length true).all id = true := by simp
      show Q (V.bl ((List.replicate (gs.map V.str).length true).all id)) H1
      rw [z]
      exact q H1 (s0.trans s1)
end
/-! which conditions are broken -/
abbrev Kept (g : Pt → Int) (rs : List Row) : Prop := ∀ c ∈ rs, g c.1 - g c.2.1 ≤ c.2.2
abbrev nPb : List Str := ["moves", "changes", "good", "number", "told", "position", "one", "other", "most"]
theorem scPb : FnScope nPb ["moves", "changes"] (defScope sPb) := ⟨rfl, rfl, rfl, by decide +kernel, rfl, by decide +kernel, by decide +kernel⟩
theorem scIsm : FnScope ["moves", "value"] ["moves", "value"] (defScope sIsm) := ⟨rfl, rfl, rfl, by decide +kernel, rfl, by decide +kernel, by decide +kernel⟩
def spPb (C R : Addr) : Sp := fun vs H Q _ => ∃ m d gs rs g, vs = [.ref m, .ref d] ∧ MovesAt C H m gs rs ∧ Fit gs rs ∧ RatD R H d gs g ∧ g none = 0 ∧ ∀ L xs H', H L = none → H' L = some (.lst xs) → (xs = [] ↔ Kept g rs) → Same H H' → Q (.ref L) H'
def spIsm (C R : Addr) : Sp := fun vs H Q _ => ∃ m d gs rs g, vs = [.ref m, .ref d] ∧ MovesAt C H m gs rs ∧ Fit gs rs ∧ RatD R H d gs g ∧ g none = 0 ∧ ∀ H', Same H H' → Q (.bl (decide (Kept g rs))) H'
/-- the told numbers: a place's Ratio -/
def ToldAt (P : Program) (w : World) (R : Addr) (H : Hp) (t : Addr) (l : List Pt) (g : Pt → Int) (n : Nat) : Prop := ∃ kvs : List (NK × V), H t = some (NDo P w t kvs) ∧ kvs.length ≤ n ∧ ∀ p ∈ l, ∃ a, valV kvs (kO p) = some (.ref a) ∧ RatAt R H a (g p)
theorem ToldAt.same {P : Program} {w : World} {R : Addr} {H H' : Hp} {t : Addr} {l : List Pt} {g : Pt → Int} {n : Nat} (h : ToldAt P w R H t l g n) (s : Same H H') : ToldAt P w R H' t l g n := by
  obtain ⟨kvs, e, ln, f⟩ := h
  exact ⟨kvs, s _ _ e, ln, fun p hp => by obtain ⟨a, b, c⟩ := f p hp; exact ⟨a, b, c.same s⟩⟩
theorem ToldAt.get {P : Program} {w : World} {R : Addr} {H : Hp} {t : Addr} {l : List Pt} {g : Pt → Int} {n : Nat} {p : Pt} (h : ToldAt P w R H t l g n) (hp : p ∈ l) : ∃ a, OGet P w H t (oV p) (some (.ref a)) ∧ RatAt R H a (g p) := by
  obtain ⟨kvs, e, ln, f⟩ := h
  obtain ⟨a, b, c⟩ := f p hp
  exact ⟨a, .inl ⟨kvs, kO p, e, (nV_kO p).symm, b.symm⟩, c⟩
theorem ToldAt.put {P : Program} {w : World} {R : Addr} {H : Hp} {t a : Addr} {l : List Pt} {g : Pt → Int} {n : Nat} {p : Pt} {W : Hp → Prop} (h : ToldAt P w R H t l g n) (ra : RatAt R H a (g p)) (hn : n < 1000) (hW : ∀ H', ToldAt P w R H' t (l ++ [p]) g (n + 1) → But t H H' → W H') :
    OPut P w H t (oV p) (.ref a) W := by
  obtain ⟨kvs, e, ln, f⟩ := h
  refine .inl ⟨kvs, kO p, e, (nV_kO p).symm, small1000 (by omega), fun H' e' bt => hW H' ⟨_, e', Nat.le_trans (length_putK kvs _ _) (Nat.succ_le_succ ln), fun q hq => ?_⟩ bt⟩
  have keep : ∀ {b : Addr} {i : Int}, RatAt R H b i → RatAt R H' b i := fun {b i} ⟨dx, z⟩ => ⟨dx, bt _ _ (ne_of z e (by intro y; cases y)) z⟩
  by_cases c : q = p
  · subst c
    exact ⟨a, by rw [valV_put, if_pos rfl], keep ra⟩
  · obtain ⟨b, e1, e2⟩ := f q ((List.mem_append.mp hq).resolve_right fun z => c (List.mem_singleton.mp z))
    exact ⟨b, by rw [valV_put, if_neg (fun z => c (kO_inj z))]; exact e1, keep e2⟩
section
variable {P : Program} {w : World} {K : PySem.W.Frag} {mg : Str → Option Value} {base : Heap} {C D R : Addr}
theorem ra_ref {op : Int → Int → Int} (vs : List V) (H : Hp) (Q : VK) (h : spRa R op vs H Q E0) : spRa R op vs H (fun v H1 => (∃ a, v = .ref a) ∧ Q v H1) E0 := by
  obtain ⟨x, y, i, j, e, a, b, q⟩ := h
  exact ⟨x, y, i, j, e, a, b, fun z H' n rt s' => ⟨⟨z, rfl⟩, q z H' n rt s'⟩⟩
theorem ok_broken {f : Addr} {fd : FuncData} (F : Fun K "positions_broken" "positions_broken" sPb f fd) (T : Bi mg) (M : Mv P w K mg base C) (C2 : Rc K mg R) (RO : Has P w K mg base "ratio_of" 4 ["value"] (spRo R))
    (MK : HasC P w K mg base R 2 ["self", "top", "bottom"] (spRi R) 1 [] (fun vs _ => vs ++ [.int 1])) (SB : HasM P w K mg base R "__sub__" 5 ["self", "other"] (spRa R fun i j => i - j)) (AM : HasM P w K mg base R "is_at_most" 5 ["self", "other"] (spAm R)) (SF : PySem.W.selfFirst K R = true) :
    FnG P w K mg base CX0 6 f fd ["moves", "changes"] (spPb C R) := by
  refine okG F scPb (fun vs H Q E h => ?_) (fun cdv A out s H vs Q E g hr h => ?_)
  · obtain ⟨m, d, gs, rs, gg, rfl, _⟩ := h
    rfl
  · obtain ⟨m, d, gs, rs, gg, rfl, hm, fit, ⟨ad, ed, rt⟩, g0, q⟩ := h
    have hr5 : Room 5 _ := hr
    have hr4 : Room 4 _ := hr.mono (by decide)
    have hr3 : Room 3 _ := hr.mono (by decide)
    have hr1 : Room 1 _ := hr.mono (by decide)
    obtain ⟨dx, fs, em, lk⟩ := hm.ins
    have szl := sizeLine_eq
    have l2 := fit.g.l2
    have ln := fit.n
    refine ⟨_, (pss_cons (ps_set (i := 4) scPb.nd rfl (.inr rfl) (pe_lock (pe_oc (own := [("good", 2), ("number", 3)]) (g := gTup K 2 (gCons (gName 2) (gCons (gName 3) gNil))) (tt := tYes) (tk := tVar 2) (tv := tGo (["value"] : List Str).length 0 (spRo R) (fun vs _ => vs) E0 (tCons (tVar 3) tNil) tNil) ⟨rfl, scPb.nd, (pi_items (pv 1)), (blkOk_by (own := [("good", 2), ("number", 3)]) (N := nPb) (sc := defScope sPb) (by decide +kernel)), (fun _ _ _ _ _ => by exact (pg_tup rfl (pgs_cons (pg_name (i := 2) scPb.nd rfl (.inl rfl)) (pgs_cons (pg_name (i := 3) scPb.nd rfl (.inl rfl)) pgs_nil)))), (fun _ _ _ _ _ => pts_nil), (fun _ _ _ _ _ => by exact (pv 2)), (fun _ _ _ _ _ => by exact (pe_has RO g hr4 (by rfl) (pa_cons (pv 3) pa_nil))), (fun _ => rfl), hr.units0⟩ starts_n)))
      (pss_cons (ps_oput (by have := hr.units; exact Nat.lt_of_le_of_lt (Nat.add_le_add_left (by decide) _) this) (pv 4) pe_non (pe_hasC MK g hr3 (by rfl) C2.gR (pa_cons pe_int pa_nil) pk_nil) rfl)
      (pss_one (ps_ret (pe_lc (own := [("position", 5), ("one", 6), ("other", 7), ("most", 8)]) (g := gTup K 2 (gCons (gName 5) (gCons (gTup K 3 (gCons (gName 6) (gCons (gName 7) (gCons (gName 8) gNil)))) gNil))) (tt := tNot (tB (tGoM R "is_at_most" 1 0 (spAm R) (fun vs _ => vs) E0 (tOp (rBinO R (spRa R fun i j => i - j) E0) (tOGet P w (tVar 4) (tVar 6)) (tOGet P w (tVar 4) (tVar 7))) (tCons (tVar 8) tNil) tNil))) (te := tVar 5) (by rfl) scPb.nd (pi_enum (by rfl) T.enumerate (pa_cons (pe_hasM0 M.conds M.cl g hr1 rfl (pv 0)) pa_nil)) (blkOk_by (own := [("position", 5), ("one", 6), ("other", 7), ("most", 8)]) (N := nPb) (sc := defScope sPb) (by decide +kernel)) (fun _ _ _ _ _ => by exact (pg_tup rfl (pgs_cons (pg_name (i := 5) scPb.nd rfl (.inl rfl)) (pgs_cons (pg_tup rfl (pgs_cons (pg_name (i := 6) scPb.nd rfl (.inl rfl)) (pgs_cons (pg_name (i := 7) scPb.nd rfl (.inl rfl)) (pgs_cons (pg_name (i := 8) scPb.nd rfl (.inl rfl)) pgs_nil)))) pgs_nil)))) (fun _ _ _ _ _ => by exact (pts_one (pt_not (pt_val (pe_hasM (n := 1) AM C2.cl g hr5 rfl (pe_op (or_bin SB rfl rfl SF g hr5 ra_ref) (pe_oget (by have := hr.units; exact Nat.lt_of_le_of_lt (Nat.add_le_add_left (by decide) _) this) (pv 4) (pv 6) (fun _ _ => rfl)) (pe_oget (by have := hr.units; exact Nat.lt_of_le_of_lt (Nat.add_le_add_left (by decide) _) this) (pv 4) (pv 7) (fun _ _ => rfl))) (pa_cons (pv 8) pa_nil)))))) (fun _ _ _ _ _ => by exact (pv 5))))))), ?_⟩
    refine ⟨d, _, ed, trivial, fun od => ?_⟩
    have eF : (upd H d (.frz od (.dK (gs.map fun x => ((Sum.inr x : L2.Key), V.ref (ad x)))))) d = some (.frz od (.dK (gs.map fun x => ((Sum.inr x : L2.Key), V.ref (ad x))))) := upd_same
    have rtF : ∀ x ∈ gs, RatAt R (upd H d (.frz od (.dK (gs.map fun x => ((Sum.inr x : L2.Key), V.ref (ad x)))))) (ad x) (gg (some x)) := fun x hx => by
      obtain ⟨dy, e⟩ := rt x hx
      exact ⟨dy, by rw [upd_ne (ne_of e ed (by intro z; cases z))]; exact e⟩
    have unl : ∀ {H' : Hp}, Same (upd H d (.frz od (.dK (gs.map fun x => ((Sum.inr x : L2.Key), V.ref (ad x)))))) H' → Same H (upd H' d (.dK (gs.map fun x => ((Sum.inr x : L2.Key), V.ref (ad x))))) := fun {H'} z => same_unlock ed z
    have fr : ∀ {a : Addr}, (upd H d (.frz od (.dK (gs.map fun x => ((Sum.inr x : L2.Key), V.ref (ad x)))))) a = none → H a = none := fun {a} z => by
      by_cases y : a = d
      · subst y
        rw [eF] at z
        cases z
      · rw [upd_ne y] at z
        exact z
    generalize upd H d (.frz od (.dK (gs.map fun x => ((Sum.inr x : L2.Key), V.ref (ad x))))) = HF at eF rtF unl fr
    refine ⟨_, rfl, d, od, _, rfl, eF, ?_⟩
    intro t H1 n1 e1 s1
    refine oc_walk (walk_items (d := d) (o := od) (kvs := gs.map fun x => ((Sum.inr x : L2.Key), V.ref (ad x)))) (fun i H' => Same HF H' ∧ ToldAt P w R H' t ((gs.take i).map some) gg i) ⟨s1, [], e1, Nat.le_refl _, fun p hp => by simp at hp⟩ (fun i H' _ ⟨z, _⟩ => z _ _ eF) ?_ ?_
    · rintro i x H2 H3 hi ⟨s2, t2⟩ ⟨Tp, a, b, rfl, nT, rfl, ea, eb⟩
      rw [List.length_map] at hi
      have ei : (gs.map fun x => ((Sum.inr x : L2.Key), V.ref (ad x)))[i]? = some (Sum.inr gs[i], V.ref (ad gs[i])) := by
        rw [List.getElem?_map, List.getElem?_eq_getElem hi]
        rfl
      have hx : gs[i]? = some gs[i] := List.getElem?_eq_getElem hi
      have mx : gs[i] ∈ gs := List.getElem_mem hi
      generalize gs[i] = y at ei hx mx
      dsimp only at ea eb
      rw [ei] at ea eb
      have ea : some (V.str y) = some a := ea
      have eb : some (V.ref (ad y)) = some b := eb
      cases ea
      cases eb
      have hT : Same H2 (upd H2 Tp (.tup [.str y, .ref (ad y)])) := same_new (Same.refl' _) nT
      have eT : (upd H2 Tp (.tup [.str y, .ref (ad y)])) Tp = some (.tup [.str y, .ref (ad y)]) := upd_same
      generalize upd H2 Tp (.tup [.str y, .ref (ad y)]) = H3 at hT eT
      refine ⟨Tp, _, rfl, SqT.of eT, rfl, _, _, rfl, _, _, rfl, rfl, rfl, yes_go ?_⟩
      refine ⟨_, rfl, _, rfl, rfl, rfl, .inl ⟨ad y, gg (some y), rfl, (rtF y mx).same (s2.trans hT), fun H4 s4 => ?_⟩⟩
      have S4 := (s2.trans hT).trans s4
      refine ((t2.same hT).same s4).put (p := some y) ((rtF y mx).same S4) (by omega) fun H5 t5 b5 => ⟨same_but S4 b5 n1, ?_⟩
      rw [take_more hx, List.map_append]
      exact t5
    rintro H2 ⟨s2, t2⟩
    refine ⟨s2 _ _ eF, ?_⟩
    have su := unl s2
    have td : t ≠ d := (ne_some n1 eF)
    rw [List.length_map, List.take_length] at t2
    have t3 : ToldAt P w R (upd H2 d (.dK (gs.map fun x => ((Sum.inr x : L2.Key), V.ref (ad x))))) t (gs.map some) gg gs.length := by
      obtain ⟨kvs, e, l, ff⟩ := t2
      refine ⟨kvs, by rw [upd_ne td]; exact e, l, fun p hp => ?_⟩
      obtain ⟨a, b, dy, z⟩ := ff p hp
      exact ⟨a, b, dy, by rw [upd_ne (ne_of z (s2 _ _ eF) (by intro y; cases y))]; exact z⟩
    have nt : H t = none := fr n1
    generalize upd H2 d (.dK (gs.map fun x => ((Sum.inr x : L2.Key), V.ref (ad x)))) = H3 at su t3
    -- told[None] = Ratio(0)
    refine ⟨rfl, rfl, ?_⟩
    refine q_rat fun z H4 nz rz s4 => ?_
    refine ⟨_, rfl, t, rfl, ?_⟩
    refine (t3.same s4).put (p := none) (by rw [g0]; exact rz) (by omega) fun H5 t5 b5 => ?_
    have s5 := same_but (su.trans s4) b5 nt
    refine ⟨_, rfl, m, dx, fs, rfl, s5 _ _ em, lk _ (by decide +kernel) (by decide +kernel), rfl, rfl, m, gs, rs, rfl, hm.same s5, fun B as H6 n6 e6 rows6 s6 => ?_⟩
    refine ⟨B, as.map V.ref, rfl, SqL.of e6, fun L nL => ?_⟩
    have la : (as.map V.ref).length = rs.length := by rw [List.length_map]; exact Paired.length rows6
    have t6 := t5.same s6
    have inl : ∀ {p : Pt}, p ∈ pts gs → p ∈ gs.map some ++ [none] := fun {p} hp => by
      rcases List.mem_cons.mp hp with e | hp
      · exact List.mem_append_right _ (by rw [e]; exact List.mem_singleton.mpr rfl)
      · exact List.mem_append_left _ hp
    refine lc_it (walk_enum (K := K) (a := B) (xs := as.map V.ref)) (fun i H' => Same H6 H' ∧ ∃ xs, H' L = some (.lst xs) ∧ xs.length ≤ i ∧ (xs = [] ↔ Kept gg (rs.take i))) ?_ ?_ ?_ ?_
    · exact ⟨same_new (Same.refl' _) nL, [], upd_same, Nat.le_refl _, ⟨fun _ c hc => by simp at hc, fun _ => rfl⟩⟩
    · exact fun i H' _ ⟨z, _⟩ => SqL.of (z _ _ e6)
    · rintro i x J1 J2 hi ⟨s7, xs, e7, lx, iff7⟩ ⟨Tp, a, b, rfl, nT, rfl, ea, eb⟩
      cases ea
      obtain ⟨tr, r, rfl, er, et⟩ := rows_at (rows_same rows6 s7) eb
      have gr := fit.r r (List.mem_of_getElem? er)
      rw [la] at hi
      have hT : Same J1 (upd J1 Tp (.tup [.int (i : Nat), .ref tr])) := same_new (Same.refl' _) nT
      have eT : (upd J1 Tp (.tup [.int (i : Nat), .ref tr])) Tp = some (.tup [.int (i : Nat), .ref tr]) := upd_same
      have et3 := hT _ _ et
      have s8 := s7.trans hT
      have e8 := hT _ _ e7
      generalize upd J1 Tp (.tup [.int (i : Nat), .ref tr]) = J2 at hT eT et3 s8 e8
      refine ⟨Tp, _, rfl, SqT.of eT, rfl, _, _, rfl, _, _, rfl, tr, _, rfl, SqT.of et3, rfl, _, _, rfl, _, _, rfl, _, _, rfl, rfl, rfl, rfl, ?_⟩
      obtain ⟨a1, o1, r1⟩ := (t6.same s8).get (inl (in_pts gr.one))
      obtain ⟨a2, o2, r2⟩ := (t6.same s8).get (inl (in_pts gr.two))
      obtain ⟨d1, x1⟩ := id r1
      obtain ⟨d2, x2⟩ := id r2
      refine ⟨_, rfl, _, rfl, t, _, rfl, o1, _, rfl, _, rfl, t, _, rfl, o2, ?_⟩
      refine ⟨a1, d1, _, a2, d2, _, rfl, rfl, x1, x2, a1, a2, gg r.1, gg r.2.1, rfl, r1, r2, fun z2 J3 n3 rz3 s9 => ?_⟩
      obtain ⟨d3, x3⟩ := id rz3
      refine ⟨z2, d3, _, rfl, x3, rfl_o (by decide +kernel) (by decide +kernel), _, rfl, rfl, rfl, z2, gg r.1 - gg r.2.1, r.2.2, rfl, rz3, fun J4 s10 => ⟨_, rfl, ?_⟩⟩
      have S10 := (s8.trans s9).trans s10
      have e10 := s10 _ _ (s9 _ _ e8)
      have split : Kept gg (rs.take (i + 1)) ↔ Kept gg (rs.take i) ∧ gg r.1 - gg r.2.1 ≤ r.2.2 := by
        rw [take_more er]
        constructor
        · exact fun h => ⟨fun c hc => h c (List.mem_append_left _ hc), h r (List.mem_append_right _ (List.mem_singleton.mpr rfl))⟩
        · rintro ⟨h1, h2⟩ c hc
          rcases List.mem_append.mp hc with hc | hc
          · exact h1 c hc
          · rw [List.mem_singleton.mp hc]
            exact h2
      by_cases c0 : gg r.1 - gg r.2.1 ≤ r.2.2
      · rw [decide_eq_true c0]
        refine iteF ⟨S10, xs, e10, by omega, ?_⟩
        rw [split, iff7]
        exact ⟨fun h => ⟨h, c0⟩, fun h => h.1⟩
      · rw [decide_eq_false c0]
        refine iteT ?_
        refine ⟨_, rfl, xs, e10, small1000 (by omega), same_but S10 But.refl.upd nL, _, upd_same, by rw [List.length_append]; show xs.length + 1 ≤ _; omega, ?_⟩
        rw [split]
        exact ⟨fun h => by simp at h, fun h => absurd h.2 c0⟩
    · rintro J1 ⟨s7, xs, e7, lx, iff7⟩
      rw [la, List.take_of_length_le (Nat.le_refl _)] at iff7
      exact q L xs J1 ((s5.trans s6).free nL) e7 iff7 ((s5.trans s6).trans s7)
end
end KM

set_option Elab.async false
set_option linter.all false
set_option maxRecDepth 100000
set_option maxHeartbeats 4000000
namespace KM
open PySem PySem.Spec PyProof.Rows L2 GL
/-! is_move, parting, are_alike -/
abbrev nPa : List Str := ["one", "other", "left", "right", "changes", "good", "number"]
theorem scPa : FnScope nPa ["one", "other"] (defScope sPa) := ⟨rfl, rfl, rfl, by decide +kernel, rfl, by decide +kernel, by decide +kernel⟩
theorem scAl : FnScope ["one", "other"] ["one", "other"] (defScope sAl) := ⟨rfl, rfl, rfl, by decide +kernel, rfl, by decide +kernel, by decide +kernel⟩
/-- the told changes, if two are not alike -/
noncomputable def partG (gs : List Str) (rs ss : List Row) : Option (Pt → Int) := match KN.ext rs ss with
  | some c => some (mvG gs (rs ++ [contr c]))
  | none => match KN.ext ss rs with
    | some c => some (mvG gs (ss ++ [contr c]))
    | none => none
/-- the changes keep the ones, not the others -/
def Sides (g : Pt → Int) (rs ss : List Row) : Prop := (Kept g rs ∧ ¬ Kept g ss) ∨ (Kept g ss ∧ ¬ Kept g rs)
theorem told_sides {gs : List Str} {rs ss : List Row} {c : Row} {g : Pt → Int} (hc : c ∈ ss) (h : Told gs (rs ++ [contr c]) g) : Kept g rs ∧ ¬ Kept g ss := by
  refine ⟨fun x hx => h.k x (List.mem_append_left _ hx), fun k => ?_⟩
  have h1 := h.k (contr c) (List.mem_append_right _ (List.mem_singleton.mpr rfl))
  have h2 := k c hc
  have h1 : g c.2.1 - g c.1 ≤ -c.2.2 - 1 := h1
  omega
theorem partG_none {gs : List Str} {rs ss : List Row} : partG gs rs ss = none ↔ KN.Alike rs ss := by
  unfold partG KN.Alike
  rw [← KN.ext_none (C := rs) (D := ss), ← KN.ext_none (C := ss) (D := rs)]
  cases h1 : KN.ext rs ss with
  | some c => exact ⟨fun z => (nomatch z), fun z => (nomatch z.1)⟩
  | none =>
    cases h2 : KN.ext ss rs with
    | some c => exact ⟨fun z => (nomatch z), fun z => (nomatch z.2)⟩
    | none => exact ⟨fun _ => ⟨rfl, rfl⟩, fun _ => rfl⟩
structure TwoM (C : Addr) (H : Hp) (l r : Addr) (gs : List Str) (rs ss : List Row) : Prop where
  l : MovesAt C H l gs rs
  r : MovesAt C H r gs ss
  fl : Fit gs rs
  fr : Fit gs ss
  ll : LowR rs
  lr : LowR ss
theorem TwoM.same {C : Addr} {H H' : Hp} {l r : Addr} {gs : List Str} {rs ss : List Row} (h : TwoM C H l r gs rs ss) (s : Same H H') : TwoM C H' l r gs rs ss := ⟨h.l.same s, h.r.same s, h.fl, h.fr, h.ll, h.lr⟩
def spPa (C R : Addr) : Sp := fun vs H Q _ => ∃ l r gs rs ss, vs = [.ref l, .ref r] ∧ TwoM C H l r gs rs ss ∧ (partG gs rs ss = none → ∀ H', Same H H' → Q .non H') ∧
  (∀ g, partG gs rs ss = some g → g none = 0 → (∀ p, (g p).natAbs ≤ 25000) → Sides g rs ss → ∀ d H', H d = none → RatD R H' d gs g → Same H H' → Q (.ref d) H')
def spAl (C : Addr) : Sp := fun vs H Q _ => ∃ l r gs rs ss, vs = [.ref l, .ref r] ∧ TwoM C H l r gs rs ss ∧ (KN.Alike rs ss → ∀ H', Same H H' → Q (.bl true) H') ∧ (¬ KN.Alike rs ss → ∀ H', Same H H' → Q (.bl false) H')
section
variable {P : Program} {w : World} {K : PySem.W.Frag} {mg : Str → Option Value} {base : Heap} {C D R : Addr}
theorem ok_ismove {f : Addr} {fd : FuncData} (F : Fun K "is_move" "is_move" sIsm f fd) (T : Bi mg) (M : Mv P w K mg base C) (AJ : Has P w K mg base "are_of_just" 3 ["names", "value"] (spAj R)) (PB : Has P w K mg base "positions_broken" 6 ["moves", "changes"] (spPb C R)) :
    FnG P w K mg base CX0 7 f fd ["moves", "value"] (spIsm C R) := by
  refine okG F scIsm (fun vs H Q E h => ?_) (fun cdv A out s H vs Q E g hr h => ?_)
  · obtain ⟨m, d, gs, rs, gg, rfl, _⟩ := h
    rfl
  · obtain ⟨m, d, gs, rs, gg, rfl, hm, fit, rd, g0, q⟩ := h
    have hr6 : Room 6 _ := hr
    have hr3 : Room 3 _ := hr.mono (by decide)
    have hr1 : Room 1 _ := hr.mono (by decide)
    obtain ⟨dx, fs, em, lk⟩ := hm.ins
    refine ⟨_, (pss_one (ps_ret (pe_and (pe_has AJ g hr3 (by rfl) (pa_cons (pe_hasM0 M.goods M.cl g hr1 rfl (pv 0)) (pa_cons (pv 1) pa_nil))) (pe_one (pe_cmpR op_eq (pe_callB call_len_seq (by rfl) T.len PySem.boot_len (pa_cons (pe_has PB g hr6 (by rfl) (pa_cons (pv 0) (pa_cons (pv 1) pa_nil))) pa_nil)) pe_int (nomark _)))))), ?_⟩
    refine ⟨_, rfl, m, dx, fs, rfl, em, lk _ (by decide +kernel) (by decide +kernel), rfl, rfl, m, gs, rs, rfl, hm, fun G H1 n1 e1 s1 => ?_⟩
    refine ⟨_, rfl, rfl, rfl, G, d, gs, gg, rfl, e1, rd.same s1, fit.g.l2, fun H2 s2 => ⟨true, rfl, ?_⟩⟩
    refine ⟨_, rfl, _, rfl, rfl, rfl, m, d, gs, rs, gg, rfl, hm.same (s1.trans s2), fit, rd.same (s1.trans s2), g0, fun L xs H3 n3 e3 iff3 s3 => ?_⟩
    refine ⟨L, _, rfl, .inl (SqL.of e3), rfl, ?_⟩
    have z : decide (V.int (xs.length : Nat) = V.int 0) = decide (Kept gg rs) := by
      refine decide_eq_decide.mpr ⟨fun h => iff3.mp ?_, fun h => ?_⟩
      · injection h with h
        exact List.length_eq_zero_iff.mp (by omega)
      · rw [iff3.mpr h]
        rfl
    show Q (V.bl (decide (V.int (xs.length : Nat) = V.int 0))) H3
    rw [z]
    exact q H3 ((s1.trans s2).trans s3)
theorem ok_parting {f : Addr} {fd : FuncData} (F : Fun K "parting" "parting" sPa f fd) (T : Bi mg) (M : Mv P w K mg base C) (C2 : Rc K mg R) (SG : Has P w K mg base "_check_same_goods" 2 ["one", "other"] (spSg C)) (MA : Has P w K mg base "_move_apart" 4 ["left", "right"] (spMa C))
    (MK : HasC P w K mg base R 2 ["self", "top", "bottom"] (spRi R) 1 [] (fun vs _ => vs ++ [.int 1])) : FnG P w K mg base CX0 5 f fd ["one", "other"] (spPa C R) := by
  refine okG F scPa (fun vs H Q E h => ?_) (fun cdv A out s H vs Q E g hr h => ?_)
  · obtain ⟨l, r, gs, rs, ss, rfl, _⟩ := h
    rfl
  · obtain ⟨l, r, gs, rs, ss, rfl, two, qn, qy⟩ := h
    have hr4 : Room 4 _ := hr
    have hr3 : Room 3 _ := hr.mono (by decide)
    have hr2 : Room 2 _ := hr.mono (by decide)
    have szl := sizeLine_eq
    have l2 := two.fl.g.l2
    refine ⟨_, (pss_cons (ps_expr (pe_has SG g hr2 (by rfl) (pa_cons (pv 0) (pa_cons (pv 1) pa_nil))))
      (pss_cons (ps_for PassesOwn.never rfl (pi_tup (pe_tupL (pa_cons (pe_tupL (pa_cons (pv 0) (pa_cons (pv 1) pa_nil))) (pa_cons (pe_tupL (pa_cons (pv 1) (pa_cons (pv 0) pa_nil))) pa_nil)))) (pg_tup rfl (pgs_cons (pg_name (i := 2) scPa.nd rfl (.inl rfl)) (pgs_cons (pg_name (i := 3) scPa.nd rfl (.inl rfl)) pgs_nil)))
      (pss_cons (ps_set (i := 4) scPa.nd rfl (.inl rfl) (pe_has MA g hr4 (by rfl) (pa_cons (pv 2) (pa_cons (pv 3) pa_nil))))
      (pss_one (ps_if (pt_cmpR op_notN (pv 4) pe_non (nomark _)) (pss_one (ps_ret (pe_lock (pe_dc (own := [("good", 5), ("number", 6)]) (g := gTup K 2 (gCons (gName 5) (gCons (gName 6) gNil))) (tt := tYes) (tk := tVar 5) (tv := tNew R 1 ([] : List Str).length (spRi R) (fun vs _ => vs ++ [.int 1]) E0 (tCons (tVar 6) tNil) tNil) rfl scPa.nd (pi_items (pv 4)) (blkOk_by (own := [("good", 5), ("number", 6)]) (N := nPa) (sc := defScope sPa) (by decide +kernel)) (fun _ _ _ _ _ => by exact (pg_tup rfl (pgs_cons (pg_name (i := 5) scPa.nd rfl (.inl rfl)) (pgs_cons (pg_name (i := 6) scPa.nd rfl (.inl rfl)) pgs_nil)))) (fun _ _ _ _ _ => pts_nil) (fun _ _ _ _ _ => by exact (pv 5)) (fun _ _ _ _ _ => by exact (pe_hasC MK g hr3 (by rfl) C2.gR (pa_cons (pv 6) pa_nil) pk_nil)))))) pss_nil))))
      (pss_one (ps_ret pe_non)))), ?_⟩
    refine ⟨_, rfl, _, rfl, rfl, rfl, l, r, gs, rs, ss, rfl, two.l, two.r, two.fl.g, fun H1 s1 => ?_⟩
    refine ⟨_, rfl, _, rfl, by show 2 ≤ sizeLine; decide, fun t1 H2 n2 e2 s2 => ?_⟩
    refine ⟨_, rfl, _, rfl, by show 2 ≤ sizeLine; decide, fun t2 H3 n3 e3 s3 => ?_⟩
    refine ⟨by show 2 ≤ sizeLine; decide, fun tt H4 n4 e4 s4 => ⟨tt, rfl, ⟨_, SqT.of e4⟩, ?_⟩⟩
    have S4 := ((s1.trans s2).trans s3).trans s4
    have et1 := s4 _ _ (s3 _ _ e2)
    have et2 := s4 _ _ e3
    have finish : ∀ (σ : L2.St) (En : L2.Ends) (J : Hp) (d : Addr) (gg : Pt → Int) (x2 x3 x5 x6 : Option V), σ = [some (.ref l), some (.ref r), x2, x3, some (.ref d), x5, x6] → En.rt = Q → Same H J → H d = none → J d = some (.dK (chgD gs gg)) → partG gs rs ss = some gg → gg none = 0 → (∀ p, (gg p).natAbs ≤ 25000) → Sides gg rs ss →
        tRet (tLockE (tDc (iItems (tVar 4)) (gTup K 2 (gCons (gName 5) (gCons (gName 6) gNil))) tYes (tVar 5) (tNew R 1 ([] : List Str).length (spRi R) (fun vs _ => vs ++ [.int 1]) E0 (tCons (tVar 6) tNil) tNil) [5, 6])) En σ J := by
      rintro σ En J d gg x2 x3 x5 x6 rfl hEn sJ nd ed hp g0 gb sd
      have done : ∀ d' H', H d' = none → RatD R H' d' gs gg → Same H H' → En.rt (.ref d') H' := fun d' H' n rd s' => by
        rw [hEn]
        exact qy gg hp g0 gb sd d' H' n rd s'
      refine ⟨d, _, ed, trivial, fun od => ?_⟩
      have eF : (upd J d (.frz od (.dK (chgD gs gg)))) d = some (.frz od (.dK (chgD gs gg))) := upd_same
      have unl : ∀ {H' : Hp}, Same (upd J d (.frz od (.dK (chgD gs gg)))) H' → Same J (upd H' d (.dK (chgD gs gg))) := fun {H'} z => same_unlock ed z
      have fr : ∀ {a : Addr}, (upd J d (.frz od (.dK (chgD gs gg)))) a = none → J a = none := fun {a} z => by
        by_cases y : a = d
        · subst y
          rw [eF] at z
          cases z
        · rw [upd_ne y] at z
          exact z
      generalize upd J d (.frz od (.dK (chgD gs gg))) = HF at eF unl fr
      refine ⟨_, rfl, d, od, _, rfl, eF, ?_⟩
      intro t n1
      refine dc_walk (walk_items (d := d) (o := od) (kvs := chgD gs gg)) (fun i H' => Same HF H' ∧ ∃ ad : Str → Addr, H' t = some (.dK ((gs.take i).map fun x => ((Sum.inr x : L2.Key), V.ref (ad x)))) ∧ ∀ x ∈ gs.take i, RatAt R H' (ad x) (gg (some x))) ⟨same_new (Same.refl' _) n1, fun _ => 0, upd_same, fun x hx => by simp at hx⟩ (fun i H' _ ⟨z, _⟩ => z _ _ eF) ?_ ?_
      · rintro i x H5 H6 hi ⟨s5, ad, e5, r5⟩ ⟨Tp, a, b, rfl, nT, rfl, ea, eb⟩
        have lc : (chgD gs gg).length = gs.length := List.length_map ..
        rw [lc] at hi
        have ei : (chgD gs gg)[i]? = some (Sum.inr gs[i], V.int (gg (some gs[i]))) := by
          unfold chgD
          rw [List.getElem?_map, List.getElem?_eq_getElem hi]
          rfl
        have hx : gs[i]? = some gs[i] := List.getElem?_eq_getElem hi
        generalize gs[i] = y at ei hx
        dsimp only at ea eb
        rw [ei] at ea eb
        have ea : some (V.str y) = some a := ea
        have eb : some (V.int (gg (some y))) = some b := eb
        cases ea
        cases eb
        have hT : Same H5 (upd H5 Tp (.tup [.str y, .int (gg (some y))])) := same_new (Same.refl' _) nT
        have eT : (upd H5 Tp (.tup [.str y, .int (gg (some y))])) Tp = some (.tup [.str y, .int (gg (some y))]) := upd_same
        have e6 := hT _ _ e5
        have s6 := s5.trans hT
        generalize upd H5 Tp (.tup [.str y, .int (gg (some y))]) = H6 at hT eT e6 s6
        refine ⟨Tp, _, rfl, SqT.of eT, rfl, _, _, rfl, _, _, rfl, rfl, rfl, yes_go ?_⟩
        refine ⟨_, rfl, _, rfl, rfl, rfl, ?_⟩
        refine q_rat fun z H7 nz rz s7 => ?_
        have e7 := s7 _ _ e6
        have tz : t ≠ z := (ne_of_none e6 nz)
        have ny := nd_at two.fl.g.nd hx
        refine ⟨_, Sum.inr y, rfl, e7, small1000 (by rw [List.length_map, List.length_take]; omega), same_but (s6.trans s7) But.refl.upd n1, fun q => if q = y then z else ad q, ?_, fun q hq => ?_⟩
        · rw [upd_same]
          have e1 : (gs.take i).map (fun x => ((Sum.inr x : L2.Key), V.ref (ad x))) = (gs.take i).map (fun x => ((Sum.inr x : L2.Key), V.ref (if x = y then z else ad x))) := by
            refine List.map_congr_left fun u hu => ?_
            have c : ¬ u = y := fun e => by subst e; exact ny hu
            simp [c]
          rw [e1]
          have nv : valV ((gs.take i).map (fun x => ((Sum.inr x : L2.Key), V.ref (if x = y then z else ad x)))) (Sum.inr y) = none := by
            cases q : valV ((gs.take i).map (fun x => ((Sum.inr x : L2.Key), V.ref (if x = y then z else ad x)))) (Sum.inr y) with
            | none => rfl
            | some v =>
              have m := mem_valV q
              obtain ⟨u, hu, eu⟩ := List.mem_map.mp m
              injection eu with eu _
              cases eu
              exact absurd hu ny
          rw [putK_new _ nv, take_more hx, List.map_append]
          simp
        · have keep2 : ∀ {b : Addr} {j : Int} {o : HO}, RatAt R H7 b j → RatAt R (upd H7 t o) b j := fun {b j o} ⟨dy, e⟩ => ⟨dy, by rw [upd_ne (ne_of e e7 (by intro w; cases w))]; exact e⟩
          rw [take_more hx] at hq
          by_cases c : q = y
          · subst c
            simp only [if_true]
            exact keep2 rz
          · simp only [c, if_false]
            exact keep2 (((r5 q ((List.mem_append.mp hq).resolve_right fun w => c (List.mem_singleton.mp w))).same hT).same s7)
      · rintro H5 ⟨s5, ad, e5, r5⟩
        have lc : (chgD gs gg).length = gs.length := List.length_map ..
        rw [lc, List.take_length] at e5 r5
        have td : t ≠ d := ne_some n1 eF
        have edF := s5 _ _ eF
        refine ⟨edF, done t _ ?_ ⟨ad, by rw [upd_ne td]; exact e5, fun x hx => ?_⟩ (sJ.trans (unl s5))⟩
        · exact sJ.free (fr n1)
        · obtain ⟨dy, e⟩ := r5 x hx
          exact ⟨dy, by rw [upd_ne (ne_of e edF (by intro w; cases w))]; exact e⟩
    refine for_it (walk_tup (K := K) (a := tt) (xs := [V.ref t1, V.ref t2])) (fun i σ' H' => ∃ (x2 x3 x4 x5 x6 : Option V), σ' = [some (.ref l), some (.ref r), x2, x3, x4, x5, x6] ∧ Same H4 H' ∧ (1 ≤ i → KN.ext rs ss = none) ∧ (2 ≤ i → KN.ext ss rs = none)) ?_ ?_ ?_ ?_
    · exact ⟨_, _, _, _, _, rfl, Same.refl' _, fun h => by omega, fun h => by omega⟩
    · rintro i σ' H' _ ⟨_, _, _, _, _, rfl, z, _⟩
      exact SqT.of (z _ _ e4)
    · rintro i x σ' H5 H5' hi ⟨x2, x3, x4, x5, x6, rfl, s5, h1, h2⟩ ⟨rfl, hx⟩
      have S5 := S4.trans s5
      match i, hi with
      | 0, _ =>
        have hx : V.ref t1 = x := by simpa using hx
        subst hx
        refine ⟨t1, _, rfl, SqT.of (s5 _ _ et1), rfl, _, _, rfl, _, _, rfl, rfl, ?_⟩
        refine ⟨_, rfl, _, rfl, rfl, rfl, l, r, gs, rs, ss, rfl, two.l.same S5, two.r.same S5, two.fl, two.fr, two.lr, fun en H6 s6 => ?_, fun c ec d H6 nd ed td s6 => ?_⟩
        · refine ⟨_, rfl, rfl, _, rfl, iteF ?_⟩
          exact ⟨_, _, _, _, _, rfl, s5.trans s6, fun _ => en, fun h => by omega⟩
        · refine ⟨_, rfl, rfl, _, rfl, iteT ?_⟩
          have hp : partG gs rs ss = some (mvG gs (rs ++ [contr c])) := by unfold partG; rw [ec]
          exact finish _ _ H6 d _ _ _ _ _ rfl rfl (S5.trans s6) (S5.free nd) ed hp td.z td.b (.inl (told_sides (KN.ext_some ec).1 td))
      | 1, _ =>
        have hx : V.ref t2 = x := by simpa using hx
        subst hx
        have en := h1 (Nat.le_refl _)
        refine ⟨t2, _, rfl, SqT.of (s5 _ _ et2), rfl, _, _, rfl, _, _, rfl, rfl, ?_⟩
        refine ⟨_, rfl, _, rfl, rfl, rfl, r, l, gs, ss, rs, rfl, two.r.same S5, two.l.same S5, two.fr, two.fl, two.ll, fun en2 H6 s6 => ?_, fun c ec d H6 nd ed td s6 => ?_⟩
        · refine ⟨_, rfl, rfl, _, rfl, iteF ?_⟩
          exact ⟨_, _, _, _, _, rfl, s5.trans s6, fun _ => en, fun _ => en2⟩
        · refine ⟨_, rfl, rfl, _, rfl, iteT ?_⟩
          have hp : partG gs rs ss = some (mvG gs (ss ++ [contr c])) := by unfold partG; rw [en, ec]
          have sd := told_sides (KN.ext_some ec).1 td
          exact finish _ _ H6 d _ _ _ _ _ rfl rfl (S5.trans s6) (S5.free nd) ed hp td.z td.b (.inr sd)
    · rintro σ' H5 ⟨_, _, _, _, _, rfl, s5, h1, h2⟩
      have hp : partG gs rs ss = none := by unfold partG; rw [h1 (by show 1 ≤ 2; decide), h2 (by show 2 ≤ 2; decide)]
      exact qn hp H5 (S4.trans s5)
theorem ok_alike {f : Addr} {fd : FuncData} (F : Fun K "are_alike" "are_alike" sAl f fd) (T : Bi mg) (PA0 : Has P w K mg base "parting" 5 ["one", "other"] (spPa C R)) : FnG P w K mg base CX0 6 f fd ["one", "other"] (spAl C) := by
  refine okG F scAl (fun vs H Q E h => ?_) (fun cdv A out s H vs Q E g hr h => ?_)
  · obtain ⟨l, r, gs, rs, ss, rfl, _⟩ := h
    rfl
  · obtain ⟨l, r, gs, rs, ss, rfl, two, qy, qn⟩ := h
    have hr5 : Room 5 _ := hr
    refine ⟨_, (pss_one (ps_ret (pe_cmpR op_isN (pe_has PA0 g hr5 (by rfl) (pa_cons (pv 0) (pa_cons (pv 1) pa_nil))) pe_non (nomark _)))), ?_⟩
    refine ⟨_, rfl, _, rfl, rfl, rfl, l, r, gs, rs, ss, rfl, two, fun hp H1 s1 => ⟨rfl, qy (partG_none.mp hp) H1 s1⟩, fun g hp _ _ _ d H1 nd rd s1 => ⟨rfl, qn (fun z => ?_) H1 s1⟩⟩
    rw [partG_none.mpr z] at hp
    cases hp
end
end KM

set_option Elab.async false
set_option linter.all false
set_option maxRecDepth 100000
set_option maxHeartbeats 4000000
namespace KM
open PySem PySem.Spec PyProof.Rows L2 GL
/-! the law's own sums of chains -/
abbrev sTt : Stmt := top 58
abbrev sHg : Stmt := top 59
def ptl (gs : List Str) : List Pt := gs.map some ++ [none]
theorem ptl_len (gs : List Str) : (ptl gs).length = gs.length + 1 := by simp [ptl]
theorem ptl_mem {gs : List Str} {p : Pt} : p ∈ ptl gs ↔ p ∈ pts gs := by simp [ptl, pts, or_comm]
theorem ptl_in {gs : List Str} {rs : List Row} (h : GoodRows gs rs) : KN.In (ptl gs) rs := fun r hr => ⟨ptl_mem.mpr (in_pts (h r hr).one), ptl_mem.mpr (in_pts (h r hr).two)⟩
theorem ptl_v (gs : List Str) : gs.map V.str ++ [V.non] = (ptl gs).map oV := by simp [ptl, oV]
/-- pairs of a place with itself, and 0 -/
abbrev DPairs (H : Hp) (ps : List Addr) (l : List Pt) : Prop := Paired (fun q p => ∃ b, H q = some (.tup [.ref b, .int 0]) ∧ H b = some (.tup [oV p, oV p])) ps l
theorem dp_kvs {K : PySem.W.Frag} {H : Hp} : ∀ {ps : List Addr} {l : List Pt}, DPairs H ps l → ∃ kvs : List (List NK × Addr × V), Paired (fun p kv => SqT K H p [.ref kv.2.1, kv.2.2] ∧ H kv.2.1 = some (.tup (kv.1.map nV))) ps kvs ∧ kvs.map (fun x => (x.1, x.2.2)) = l.map fun p => ([kO p, kO p], V.int 0)
  | _, _, .nil => ⟨[], .nil, rfl⟩
  | _, _, .cons (b := p) ⟨b, e1, e2⟩ t => by
    obtain ⟨kvs, a, c⟩ := dp_kvs (K := K) t
    exact ⟨([kO p, kO p], b, .int 0) :: kvs, .cons ⟨SqT.of e1, by rw [pair_vs]; exact e2⟩ a, by rw [List.map_cons, List.map_cons, c]⟩
theorem tab0_puts (l : List Pt) : TabK (puts [] (l.map fun p => ([kO p, kO p], V.int 0))) (tab0 l) l.length := by
  have go : ∀ n, n ≤ l.length → TabK (puts [] ((l.take n).map fun p => ([kO p, kO p], V.int 0))) (tab0 (l.take n)) n := by
    intro n
    induction n with
    | zero =>
      intro _
      have z : tab0 (l.take 0) = fun _ _ => none := by
        funext u v
        exact if_neg fun z => by simp at z
      rw [z]
      exact TabK.empty
    | succ n ih =>
      intro h
      have e : l[n]? = some l[n] := List.getElem?_eq_getElem (by omega)
      rw [take_more e, List.map_append, List.map_singleton, puts_snoc, ← tab0_put]
      exact (ih (by omega)).put _ _ 0
  have z := go l.length (Nat.le_refl _)
  rw [List.take_length] at z
  exact z
theorem dp_same {H H' : Hp} {ps : List Addr} {l : List Pt} (h : DPairs H ps l) (s : Same H H') : DPairs H' ps l := Paired.mapP h fun q p ⟨b, e1, e2⟩ => ⟨b, s _ _ e1, s _ _ e2⟩
theorem dp_app {H : Hp} : ∀ {as bs : List Addr} {l m : List Pt}, DPairs H as l → DPairs H bs m → DPairs H (as ++ bs) (l ++ m)
  | _, _, _, _, .nil, h => h
  | _, _, _, _, .cons a t, h => .cons a (dp_app t h)
/-- the law's table of some conditions -/
structure LTab (gs : List Str) (rs : List Row) (f : KN.Tab Pt) : Prop where
  b : KN.Bett rs (ptl gs) (ptl gs).length f
  v : ∀ x y s, f x y = some s → x ∈ ptl gs
def spTt (P : Program) (w : World) : Sp := fun vs H Q _ => ∃ (G R : Addr) (gs : List Str) (rs : List Row) (as : List Addr), vs = [.ref G, .ref R] ∧ H G = some (.lst (gs.map V.str)) ∧ H R = some (.lst (as.map V.ref)) ∧ RowsIn H as rs ∧ gs.length ≤ 4 ∧ GoodRows gs rs ∧ rs.length ≤ 30 ∧
  ∀ d f H', H d = none → TabAt P w H' d f 900 → LTab gs rs f → Same H H' → Q (.ref d) H'
abbrev nTt : List Str := ["_law_goods", "_law_rows", "_law_points", "_law_near", "_law_found", "_law_turn", "_law_one", "_law_other", "_law_most", "_law_total"]
theorem scTt : FnScope nTt ["_law_goods", "_law_rows"] (defScope sTt) := ⟨rfl, rfl, rfl, by decide +kernel, rfl, by decide +kernel, by decide +kernel⟩
section
variable {P : Program} {w : World} {K : PySem.W.Frag} {mg : Str → Option Value} {base : Heap}
theorem ok_tight {f : Addr} {fd : FuncData} (F : Fun K "_law_tight" "_law_tight" sTt f fd) (T : Bi mg) : FnG P w K mg base CX0 1 f fd ["_law_goods", "_law_rows"] (spTt P w) := by
  refine okG F scTt (fun vs H Q E h => ?_) (fun cdv A out s H vs Q E g hr h => ?_)
  · obtain ⟨G, R, gs, rs, as, rfl, _⟩ := h
    rfl
  · obtain ⟨G, R, gs, rs, as, rfl, eG, eR, rows, l2, good, lr, q⟩ := h
    have szl := sizeLine_eq
    have lpt := ptl_len gs
    refine ⟨_, (pss_cons (ps_set (i := 2) scTt.nd rfl (.inl rfl) (pe_op op_catL (pv 0) (pe_lstL (pa_cons pe_non pa_nil))))
      (pss_cons (ps_set (i := 4) scTt.nd rfl (.inl rfl) (pe_callTy (call_dictP' rfl (by have := hr.units; exact Nat.lt_of_le_of_lt (Nat.add_le_add_left (by decide) _) this)) (by rfl) T.dict (by decide +kernel) (pa_cons (pe_lc (own := [("_law_near", 3)]) (g := gName 3) (tt := tYes) (te := tTupL (tCons (tTupL (tCons (tVar 3) (tCons (tVar 3) tNil))) (tCons (tC (.int 0)) tNil))) (by rfl) scTt.nd (pi_list (pv 2)) (blkOk_by (own := [("_law_near", 3)]) (N := nTt) (sc := defScope sTt) (by decide +kernel)) (fun _ _ _ _ _ => by exact (pg_name (i := 3) scTt.nd rfl (.inl rfl))) (fun _ _ _ _ _ => pts_nil) (fun _ _ _ _ _ => by exact (pe_tupL (pa_cons (pe_tupL (pa_cons (pv 3) (pa_cons (pv 3) pa_nil))) (pa_cons pe_int pa_nil))))) pa_nil)))
      (pss_cons (ps_for PassesOwn.never rfl (pi_list (pv 2)) (pg_name (i := 5) scTt.nd rfl (.inl rfl))
      (pss_one (ps_for PassesOwn.never rfl (pi_list (pv 2)) (pg_name (i := 3) scTt.nd rfl (.inl rfl))
      (pss_one (ps_for PassesOwn.never rfl (pi_list (pv 1)) (pg_tup rfl (pgs_cons (pg_name (i := 6) scTt.nd rfl (.inl rfl)) (pgs_cons (pg_name (i := 7) scTt.nd rfl (.inl rfl)) (pgs_cons (pg_name (i := 8) scTt.nd rfl (.inl rfl)) pgs_nil))))
      (pss_one (ps_if (pt_cmp (pc_oin (by have := hr.units; exact Nat.lt_of_le_of_lt (Nat.add_le_add_left (by decide) _) this) (pe_tupL (pa_cons (pv 7) (pa_cons (pv 3) pa_nil))) (pv 4))) (pss_cons (ps_set (i := 9) scTt.nd rfl (.inl rfl) (pe_op op_add (pv 8) (pe_oget (by have := hr.units; exact Nat.lt_of_le_of_lt (Nat.add_le_add_left (by decide) _) this) (pv 4) (pe_tupL (pa_cons (pv 7) (pa_cons (pv 3) pa_nil))) (fun _ _ => rfl))))
      (pss_one (ps_oput (by have := hr.units; exact Nat.lt_of_le_of_lt (Nat.add_le_add_left (by decide) _) this) (pv 4) (pe_tupL (pa_cons (pv 6) (pa_cons (pv 3) pa_nil))) (pe_callB (call_min2 rfl) (by rfl) T.min (by decide +kernel) (pa_cons (pv 9) (pa_cons (pe_oget2 (by have := hr.units; exact Nat.lt_of_le_of_lt (Nat.add_le_add_left (by decide) _) this) (pv 4) (pe_tupL (pa_cons (pv 6) (pa_cons (pv 3) pa_nil))) (pv 9) ⟨rfl, rfl, rfl, rfl⟩) pa_nil))) rfl))) pss_nil)))))))
      (pss_one (ps_ret (pv 4)))))), ?_⟩
    refine ⟨_, rfl, by show 1 ≤ sizeLine; decide, fun b1 H1 n1 e1 s1 => ⟨G, b1, gs.map V.str, [.non], rfl, rfl, s1 _ _ eG, e1, by rw [List.length_map]; show gs.length + 1 ≤ sizeLine; omega, fun Pp H2 n2 e2 s2 => ?_⟩⟩
    rw [ptl_v] at e2
    have S2 := s1.trans s2
    refine ⟨_, rfl, Pp, rfl, ⟨_, SqL.of e2⟩, fun L nL => ?_⟩
    have lv : ((ptl gs).map oV).length = gs.length + 1 := by rw [List.length_map, ptl_len]
    refine lc_it (walk_list (K := K) (a := Pp) (xs := (ptl gs).map oV)) (fun i H' => Same H2 H' ∧ ∃ ps : List Addr, H' L = some (.lst (ps.map V.ref)) ∧ DPairs H' ps ((ptl gs).take i) ∧ ps.length ≤ i) ⟨same_new (Same.refl' _) nL, [], upd_same, .nil, Nat.le_refl _⟩ (fun i H' _ ⟨z, _⟩ => SqL.of (z _ _ e2)) ?_ ?_
    · rintro i x H3 H4 hi ⟨s3, ps, e3, dp, lp⟩ ⟨rfl, hx⟩
      obtain ⟨p, hp, rfl⟩ := oV_at hx
      rw [lv] at hi
      refine ⟨rfl, yes_go ?_⟩
      refine ⟨_, rfl, _, rfl, by show 2 ≤ sizeLine; decide, fun t1 H5 n5 e5 s5 => ⟨by show 2 ≤ sizeLine; decide, fun t2 H6 n6 e6 s6 => ?_⟩⟩
      have s36 := s5.trans s6
      have eL6 := s36 _ _ e3
      have keep : ∀ {a : Addr} {xs : List V}, H6 a = some (.tup xs) → (upd H6 L (.lst (ps.map V.ref ++ [.ref t2]))) a = some (.tup xs) := fun {a xs} e => by rw [upd_ne (ne_of e eL6 (by intro z; cases z))]; exact e
      refine ⟨_, eL6, by rw [List.length_map]; exact small1000 (by omega), same_but (s3.trans s36) But.refl.upd nL, ps ++ [t2], by rw [upd_same]; simp, ?_, by simp; omega⟩
      rw [take_more hp]
      refine dp_app (Paired.mapP (dp_same dp s36) fun q p ⟨b, z1, z2⟩ => ⟨b, keep z1, keep z2⟩) (.cons ⟨t1, keep e6, keep (s6 _ _ e5)⟩ .nil)
    rintro H3 ⟨s3, ps, e3, dp, lp⟩
    rw [lv, ← lpt, List.take_length] at dp
    obtain ⟨kvs, hk1, hk2⟩ := dp_kvs (K := K) dp
    refine ⟨L, ps, kvs, rfl, SqL.of e3, hk1, fun d H4 nd pd sd => ?_⟩
    rw [hk2] at pd
    have td : TabAt P w H4 d (tab0 (ptl gs)) (gs.length + 1) := ⟨_, pd, lpt ▸ tab0_puts (ptl gs)⟩
    have S4 := (S2.trans s3).trans sd
    have nd0 : H d = none := (S2.trans s3).free nd
    have eP4 := sd _ _ (s3 _ _ e2)
    have nd2 : H2 d = none := s3.free nd
    have la : (as.map V.ref).length = rs.length := by rw [List.length_map]; exact Paired.length rows
    have b0 : KN.Bett rs (ptl gs) 0 (tab0 (ptl gs)) := .zero fun a b s => by
      unfold tab0
      by_cases q : a = b ∧ a ∈ ptl gs
      · rw [if_pos q]
        exact ⟨fun z => ⟨q.2, q.1, (Option.some.inj z).symm⟩, fun z => by rw [z.2.2]⟩
      · rw [if_neg q]
        exact ⟨fun z => (nomatch z), fun z => absurd ⟨z.2.1, z.1⟩ q⟩
    refine ⟨_, rfl, Pp, rfl, ⟨_, SqL.of eP4⟩, ?_⟩
    refine for_list (K := K) (a := Pp) (xs := (ptl gs).map oV) (fun i σ' H' => ∃ (x3 x5 x6 x7 x8 x9 : Option V), σ' = [some (.ref G), some (.ref R), some (.ref Pp), x3, some (.ref d), x5, x6, x7, x8, x9] ∧ Same H H' ∧ Same H2 H' ∧ ∃ f, TabAt P w H' d f (5 + i * 150) ∧ KN.Bett rs (ptl gs) i f ∧ ∀ x y s, f x y = some s → x ∈ ptl gs) ?_ ?_ ?_ ?_
    · refine ⟨_, _, _, _, _, _, rfl, S4, s3.trans sd, _, td.mono (by omega), b0, fun x y s e => ?_⟩
      unfold tab0 at e
      split at e
      · rename_i q
        exact q.2
      · cases e
    · rintro i σ' H5 _ ⟨_, _, _, _, _, _, rfl, _, z, _⟩
      exact SqL.of (z _ _ e2)
    · rintro i x σ' H5 hi ⟨x3, x5, x6, x7, x8, x9, rfl, s5, z5, f0, t5, m5, v5⟩
      have ilt : i < gs.length + 1 := by
        have := (List.getElem?_eq_some_iff.mp hi).1
        omega
      refine ⟨_, rfl, Pp, rfl, ⟨_, SqL.of (z5 _ _ e2)⟩, ?_⟩
      refine for_list (K := K) (a := Pp) (xs := (ptl gs).map oV) (fun k σ' H' => ∃ (x3 x6 x7 x8 x9 : Option V), σ' = [some (.ref G), some (.ref R), some (.ref Pp), x3, some (.ref d), some x, x6, x7, x8, x9] ∧ Same H H' ∧ Same H2 H' ∧ ∃ f, TabAt P w H' d f (5 + i * 150 + k * 30) ∧ KN.Rnd rs f0 f (fun c b => c ∈ rs ∧ b ∈ (ptl gs).take k) ∧ ∀ x y s, f x y = some s → x ∈ ptl gs) ?_ ?_ ?_ ?_
      · exact ⟨_, _, _, _, _, rfl, s5, z5, f0, t5, (KN.Rnd.start m5).weaken fun x y h => by simp at h, v5⟩
      · rintro k σ' H6 _ ⟨_, _, _, _, _, rfl, _, z, _⟩
        exact SqL.of (z _ _ e2)
      · rintro k y σ' H6 hk ⟨x3, x6, x7, x8, x9, rfl, s6, z6, f1, t6, m6, v6⟩
        obtain ⟨b, hb, rfl⟩ := oV_at hk
        have klt : k < gs.length + 1 := by
          have := (List.getElem?_eq_some_iff.mp hk).1
          omega
        refine ⟨_, rfl, R, rfl, ⟨_, SqL.of (s6 _ _ eR)⟩, ?_⟩
        refine for_list (K := K) (a := R) (xs := as.map V.ref) (fun j σ' H' => ∃ (x6 x7 x8 x9 : Option V), σ' = [some (.ref G), some (.ref R), some (.ref Pp), some (oV b), some (.ref d), some x, x6, x7, x8, x9] ∧ Same H H' ∧ Same H2 H' ∧ ∃ f, TabAt P w H' d f (5 + i * 150 + k * 30 + j) ∧
          KN.Rnd rs f0 f (fun c b' => (c ∈ rs ∧ b' ∈ (ptl gs).take k) ∨ (c ∈ rs.take j ∧ b' = b)) ∧ ∀ x y s, f x y = some s → x ∈ ptl gs) ?_ ?_ ?_ ?_
        · exact ⟨_, _, _, _, rfl, s6, z6, f1, t6, m6.weaken fun x y h => h.elim id fun z => by simp at z, v6⟩
        · rintro j σ' H7 _ ⟨_, _, _, _, rfl, z, _⟩
          exact SqL.of (z _ _ eR)
        · rintro j y σ' H7 hj ⟨_, _, _, _, rfl, s7, z7, f2, t7, m7, v7⟩
          obtain ⟨tr, r, rfl, er, et⟩ := rows_at (rows_same rows s7) hj
          have rm : (r.1, r.2.1, r.2.2) ∈ rs := List.mem_of_getElem? er
          have gr := good r rm
          have jlt : j < rs.length := (List.getElem?_eq_some_iff.mp er).1
          have next : ∀ f', KN.Rnd rs f0 f' (fun c b' => ((c ∈ rs ∧ b' ∈ (ptl gs).take k) ∨ (c ∈ rs.take j ∧ b' = b)) ∨ (c = (r.1, r.2.1, r.2.2) ∧ b' = b)) →
              KN.Rnd rs f0 f' (fun c b' => (c ∈ rs ∧ b' ∈ (ptl gs).take k) ∨ (c ∈ rs.take (j + 1) ∧ b' = b)) := fun f' h => h.weaken fun c b' z => by
            rcases z with z | ⟨z, rfl⟩
            · exact .inl (.inl z)
            · rw [take_more er] at z
              rcases List.mem_append.mp z with z | z
              · exact .inl (.inr ⟨z, rfl⟩)
              · exact .inr ⟨List.mem_singleton.mp z, rfl⟩
          refine ⟨tr, _, rfl, SqT.of et, rfl, _, _, rfl, _, _, rfl, _, _, rfl, rfl, ?_⟩
          refine ⟨_, rfl, _, rfl, by show 2 ≤ sizeLine; decide, fun t1 H8 n8 e8 s8 => ?_⟩
          refine ⟨_, rfl, d, _, rfl, (t7.same s8).get e8, _, rfl, ?_⟩
          cases hf : f2 r.2.1 b with
          | none =>
            refine iteF ?_
            exact ⟨_, _, _, _, rfl, s7.trans s8, z7.trans s8, f2, (t7.same s8).mono (by omega), next _ (m7.skip hf), v7⟩
          | some s0 =>
            refine iteT ?_
            refine ⟨_, rfl, _, rfl, _, rfl, _, rfl, by show 2 ≤ sizeLine; decide, fun t2 H9 n9 e9 s9 => ?_⟩
            have t9 := (t7.same s8).same s9
            refine ⟨d, _, rfl, by rw [← show ((some s0 : Option Int).map V.int) = some (V.int s0) from rfl, ← hf]; exact t9.get e9, _, _, rfl, rfl, ?_⟩
            refine ⟨_, rfl, _, rfl, d, rfl, ⟨_, _, t9.get e9⟩, _, rfl, _, rfl, by show 2 ≤ sizeLine; decide, fun t3 H10 n10 e10 s10 => ⟨_, rfl, _, (t9.same s10).get e10, ?_⟩⟩
            obtain ⟨c0, ec0⟩ : ∃ c0 : Int, ((f2 r.1 b).map V.int).getD (V.int (r.2.2 + s0)) = V.int c0 := by
              cases f2 r.1 b with
              | none => exact ⟨_, rfl⟩
              | some z => exact ⟨z, rfl⟩
            have hc0 : (f2 r.1 b = none ∧ c0 = r.2.2 + s0) ∨ f2 r.1 b = some c0 := by
              cases q : f2 r.1 b with
              | none =>
                rw [q] at ec0
                have ec0 : V.int (r.2.2 + s0) = V.int c0 := ec0
                injection ec0 with e
                exact .inl ⟨rfl, e.symm⟩
              | some z =>
                rw [q] at ec0
                have ec0 : V.int z = V.int c0 := ec0
                injection ec0 with e
                exact .inr (by rw [e])
            rw [ec0]
            refine ⟨_, _, rfl, ?_⟩
            refine ⟨_, rfl, _, rfl, _, rfl, by show 2 ≤ sizeLine; decide, fun t4 H11 n11 e11 s11 => ⟨d, rfl, ?_⟩⟩
            have S11 := ((s8.trans s9).trans s10).trans s11
            refine ((t9.same s10).same s11).put e11 (by omega) fun H12 t12 b12 => ?_
            refine ⟨_, _, _, _, rfl, same_but (s7.trans S11) b12 nd0, same_but (z7.trans S11) b12 nd2, _, t12, next _ (m7.put rm hf ?_), fun x y s e => ?_⟩
            · rcases hc0 with ⟨h1, rfl⟩ | h1
              · refine .inl ⟨by split <;> rfl, fun s e => by rw [h1] at e; cases e⟩
              · by_cases c : c0 < r.2.2 + s0
                · rw [if_pos c]
                  exact .inr ⟨h1, by omega⟩
                · rw [if_neg c]
                  exact .inl ⟨rfl, fun s e => by rw [h1] at e; cases e; omega⟩
            · unfold KN.Tab.put at e
              split at e
              · rename_i q
                rw [q.1]
                exact ptl_mem.mpr (in_pts gr.one)
              · exact v7 x y s e
        · rintro σ' H7 ⟨_, _, _, _, rfl, s7, z7, f2, t7, m7, v7⟩
          rw [la] at t7 m7
          rw [List.take_of_length_le (Nat.le_refl _)] at m7
          refine ⟨_, _, _, _, _, rfl, s7, z7, f2, t7.mono (by omega), m7.weaken fun c b' z => ?_, v7⟩
          rw [take_more hb] at z
          rcases List.mem_append.mp z.2 with m | m
          · exact .inl ⟨z.1, m⟩
          · exact .inr ⟨z.1, List.mem_singleton.mp m⟩
      · rintro σ' H6 ⟨_, _, _, _, _, rfl, s6, z6, f1, t6, m6, v6⟩
        rw [lv] at t6 m6
        rw [← lpt, List.take_length] at m6
        exact ⟨_, _, _, _, _, _, rfl, s6, z6, f1, t6.mono (by omega), m6.done (ptl_in good) m5 fun c hc b hb => ⟨hc, hb⟩, v6⟩
    · rintro σ' H5 ⟨_, _, _, _, _, _, rfl, s5, z5, f, t5, m5, v5⟩
      rw [lv, ← lpt] at m5
      rw [lv] at t5
      exact ⟨_, rfl, q d f H5 nd0 (t5.mono (by omega)) ⟨m5, v5⟩ s5⟩
end
end KM

set_option Elab.async false
set_option linter.all false
set_option maxRecDepth 100000
set_option maxHeartbeats 4000000
namespace KM
open PySem PySem.Spec PyProof.Rows L2 GL
/-! the law's own judges -/
abbrev sJn : Stmt := top 61
abbrev sJl : Stmt := top 62
abbrev sJa : Stmt := top 63
def spHg : Sp := fun vs H Q _ => ∃ (G R : Addr) (gs : List Str) (rs : List Row) (as : List Addr), vs = [.ref G, .ref R] ∧ H G = some (.lst (gs.map V.str)) ∧ H R = some (.lst (as.map V.ref)) ∧ RowsIn H as rs ∧ gs.length ≤ 4 ∧ GoodRows gs rs ∧ rs.length ≤ 30 ∧
  (KN.Ring rs → ∀ H', Same H H' → Q (.bl true) H') ∧ (¬ KN.Ring rs → ∀ H', Same H H' → Q (.bl false) H')
def spJn : Sp := fun vs H Q _ => ∃ (G R : Addr) (gs : List Str) (rs : List Row) (as : List Addr) (i : Nat), vs = [.ref G, .ref R, .int (i : Nat)] ∧ H G = some (.lst (gs.map V.str)) ∧ H R = some (.lst (as.map V.ref)) ∧ RowsIn H as rs ∧ gs.length ≤ 4 ∧ GoodRows gs rs ∧ rs.length ≤ 30 ∧ i < rs.length ∧
  (KN.Needl rs i → ∀ H', Same H H' → Q (.bl true) H') ∧ (¬ KN.Needl rs i → ∀ H', Same H H' → Q (.bl false) H')
def spJl : Sp := fun vs H Q _ => ∃ (G R : Addr) (gs : List Str) (rs : List Row) (as : List Addr), vs = [.ref G, .ref R] ∧ H G = some (.lst (gs.map V.str)) ∧ H R = some (.lst (as.map V.ref)) ∧ RowsIn H as rs ∧ gs.length ≤ 4 ∧ GoodRows gs rs ∧ rs.length ≤ 30 ∧
  ∀ L bs H', H L = none → H' L = some (.lst (bs.map V.ref)) → RowsIn H' bs (KN.leanL rs) → Same H H' → Q (.ref L) H'
def spJa : Sp := fun vs H Q _ => ∃ (G R S : Addr) (gs : List Str) (rs ss : List Row) (as bs : List Addr), vs = [.ref G, .ref R, .ref S] ∧ H G = some (.lst (gs.map V.str)) ∧ H R = some (.lst (as.map V.ref)) ∧ RowsIn H as rs ∧ H S = some (.lst (bs.map V.ref)) ∧ RowsIn H bs ss ∧ gs.length ≤ 4 ∧ GoodRows gs rs ∧ GoodRows gs ss ∧
  rs.length ≤ 30 ∧ ss.length ≤ 30 ∧ (KN.Alike rs ss → ∀ H', Same H H' → Q (.bl true) H') ∧ (¬ KN.Alike rs ss → ∀ H', Same H H' → Q (.bl false) H')
abbrev nHg : List Str := ["_law_goods", "_law_rows", "_law_found", "_law_near"]
theorem scHg : FnScope nHg ["_law_goods", "_law_rows"] (defScope sHg) := ⟨rfl, rfl, rfl, by decide +kernel, rfl, by decide +kernel, by decide +kernel⟩
theorem scJn : FnScope ["_law_goods", "_law_rows", "_law_at", "_law_one", "_law_other", "_law_most", "_law_rest", "_law_found"] ["_law_goods", "_law_rows", "_law_at"] (defScope sJn) := ⟨rfl, rfl, rfl, by decide +kernel, rfl, by decide +kernel, by decide +kernel⟩
theorem scJl : FnScope ["_law_goods", "_law_rows", "_law_left", "_law_at"] ["_law_goods", "_law_rows"] (defScope sJl) := ⟨rfl, rfl, rfl, by decide +kernel, rfl, by decide +kernel, by decide +kernel⟩
theorem scJa : FnScope ["_law_goods", "_law_rows", "_law_others_here", "_law_rings"] ["_law_goods", "_law_rows", "_law_others_here"] (defScope sJa) := ⟨rfl, rfl, rfl, by decide +kernel, rfl, by decide +kernel, by decide +kernel⟩
theorem hg_go {vs : List V} {H : Hp} {Q : VK} {E : XK} (h : ∃ (G R : Addr) (gs : List Str) (rs : List Row) (as : List Addr), vs = [.ref G, .ref R] ∧ H G = some (.lst (gs.map V.str)) ∧ H R = some (.lst (as.map V.ref)) ∧ RowsIn H as rs ∧ gs.length ≤ 4 ∧ GoodRows gs rs ∧ rs.length ≤ 30 ∧
    ∀ (p : Bool) H', (p = true ↔ KN.Ring rs) → Same H H' → Q (.bl p) H') : spHg vs H Q E := by
  obtain ⟨G, R, gs, rs, as, e, a, b, c, d, f, l, q⟩ := h
  exact ⟨G, R, gs, rs, as, e, a, b, c, d, f, l, fun hg H' s => q true H' ⟨fun _ => hg, fun _ => rfl⟩ s, fun hg H' s => q false H' ⟨fun z => (nomatch z), fun z => absurd z hg⟩ s⟩
theorem wo_good {gs : List Str} {rs : List Row} {i : Nat} (h : GoodRows gs rs) : GoodRows gs (KN.wo rs i) := fun r hr => h r (KN.mem_wo hr)
theorem wo_le {α : Type} (l : List α) (i : Nat) : (KN.wo l i).length ≤ l.length := by
  unfold KN.wo
  rw [List.length_append, List.length_take, List.length_drop]
  omega
section
variable {P : Program} {w : World} {K : PySem.W.Frag} {mg : Str → Option Value} {base : Heap}
theorem ok_hasr {f : Addr} {fd : FuncData} (F : Fun K "_law_has_ring" "_law_has_ring" sHg f fd) (T : Bi mg) (TT : Has P w K mg base "_law_tight" 1 ["_law_goods", "_law_rows"] (spTt P w)) : FnG P w K mg base CX0 2 f fd ["_law_goods", "_law_rows"] spHg := by
  refine okG F scHg (fun vs H Q E h => ?_) (fun cdv A out s H vs Q E g hr h => ?_)
  · obtain ⟨G, R, gs, rs, as, rfl, _⟩ := h
    rfl
  · obtain ⟨G, R, gs, rs, as, rfl, eG, eR, rows, l2, good, lr, qy, qn⟩ := h
    have szl := sizeLine_eq
    have hr1 : Room 1 _ := hr
    have lpt := ptl_len gs
    refine ⟨_, (pss_cons (ps_set (i := 2) scHg.nd rfl (.inr rfl) (pe_has TT g hr1 (by rfl) (pa_cons (pv 0) (pa_cons (pv 1) pa_nil))))
      (pss_one (ps_ret (pe_callB (cr_any (by rfl)) (by rfl) T.any (by decide +kernel) (pa_cons (pe_lc (own := [("_law_near", 3)]) (g := gName 3) (tt := tYes) (te := tOp (rI0 fun i j => V.bl (decide (i < j))) (tOGet P w (tVar 2) (tTupL (tCons (tVar 3) (tCons (tVar 3) tNil)))) (tC (.int 0))) (by rfl) scHg.nd (pi_list (pe_op op_catL (pv 0) (pe_lstL (pa_cons pe_non pa_nil)))) (blkOk_by (own := [("_law_near", 3)]) (N := nHg) (sc := defScope sHg) (by decide +kernel)) (fun _ _ _ _ _ => by exact (pg_name (i := 3) scHg.nd rfl (.inl rfl))) (fun _ _ _ _ _ => pts_nil) (fun _ _ _ _ _ => by exact (pe_cmpR op_lt (pe_oget (by have := hr.units; exact Nat.lt_of_le_of_lt (Nat.add_le_add_left (by decide) _) this) (pv 2) (pe_tupL (pa_cons (pv 3) (pa_cons (pv 3) pa_nil))) (fun _ _ => rfl)) pe_int (nomark _)))) pa_nil))))), ?_⟩
    refine ⟨_, rfl, _, rfl, rfl, rfl, G, R, gs, rs, as, rfl, eG, eR, rows, l2, good, lr, fun d f0 H1 nd td lt s1 => ?_⟩
    have lv : ((ptl gs).map oV).length = gs.length + 1 := by rw [List.length_map, ptl_len]
    refine ⟨_, rfl, by show 1 ≤ sizeLine; decide, fun b1 H2 n2 e2 s2 => ⟨G, b1, gs.map V.str, [.non], rfl, rfl, s2 _ _ (s1 _ _ eG), e2, by rw [List.length_map]; show gs.length + 1 ≤ sizeLine; omega, fun Pp H3 n3 e3 s3 => ?_⟩⟩
    rw [ptl_v] at e3
    have t3 := (td.same s2).same s3
    refine ⟨Pp, rfl, ⟨_, SqL.of e3⟩, fun L nL => ?_⟩
    refine lc_it (walk_list (K := K) (a := Pp) (xs := (ptl gs).map oV)) (fun i H' => Same H3 H' ∧ ∃ bs : List Bool, H' L = some (.lst (bs.map V.bl)) ∧ bs.length ≤ i ∧ (bs.any id = true ↔ ∃ p ∈ (ptl gs).take i, ∃ s, f0 p p = some s ∧ s < 0)) ⟨same_new (Same.refl' _) nL, [], upd_same, Nat.le_refl _, by simp⟩ (fun i H' _ ⟨z, _⟩ => SqL.of (z _ _ e3)) ?_ ?_
    · rintro i x H4 H5 hi ⟨s4, bs, e4, lb, iff4⟩ ⟨rfl, hx⟩
      obtain ⟨p, hp, rfl⟩ := oV_at hx
      rw [lv] at hi
      refine ⟨rfl, yes_go ?_⟩
      obtain ⟨s0, hf, _⟩ := lt.b.c p p [] 0 (List.mem_of_getElem? hp) .nil (Nat.zero_le _)
      refine ⟨_, rfl, _, rfl, _, rfl, by show 2 ≤ sizeLine; decide, fun t1 H6 n6 e6 s6 => ?_⟩
      refine ⟨d, _, rfl, by rw [← show ((some s0 : Option Int).map V.int) = some (V.int s0) from rfl, ← hf]; exact ((t3.same s4).same s6).get e6, _, _, rfl, rfl, ?_⟩
      have e6' := s6 _ _ e4
      refine ⟨_, e6', by rw [List.length_map]; exact small1000 (by omega), same_but (s4.trans s6) But.refl.upd nL, bs ++ [decide (s0 < 0)], by rw [upd_same]; simp, by simp; omega, ?_⟩
      rw [take_more hp, List.any_append, Bool.or_eq_true, iff4]
      constructor
      · rintro (⟨p', m, z⟩ | z)
        · exact ⟨p', List.mem_append_left _ m, z⟩
        · have z : decide (s0 < 0) = true := by simpa using z
          exact ⟨p, List.mem_append_right _ (List.mem_singleton.mpr rfl), s0, hf, of_decide_eq_true z⟩
      · rintro ⟨p', m, s, z1, z2⟩
        rcases List.mem_append.mp m with m | m
        · exact .inl ⟨p', m, s, z1, z2⟩
        · rw [List.mem_singleton.mp m] at z1
          rw [hf] at z1
          cases z1
          exact .inr (by simpa using z2)
    · rintro H4 ⟨s4, bs, e4, lb, iff4⟩
      rw [lv, ← lpt, List.take_length, ← lt.b.ring (ptl_in good)] at iff4
      refine ⟨L, bs, rfl, SqL.of e4, ?_⟩
      have S4 := ((s1.trans s2).trans s3).trans s4
      show Q (V.bl (bs.any id)) H4
      cases hb : bs.any id with
      | true => exact qy (iff4.mp hb) H4 S4
      | false => exact qn (fun z => by rw [iff4.mpr z] at hb; cases hb) H4 S4
theorem ok_isneed {f : Addr} {fd : FuncData} (F : Fun K "_law_is_needless" "_law_is_needless" sJn f fd) (T : Bi mg) (TT : Has P w K mg base "_law_tight" 1 ["_law_goods", "_law_rows"] (spTt P w)) (HG : Has P w K mg base "_law_has_ring" 2 ["_law_goods", "_law_rows"] spHg) :
    FnG P w K mg base CX0 3 f fd ["_law_goods", "_law_rows", "_law_at"] spJn := by
  refine okG F scJn (fun vs H Q E h => ?_) (fun cdv A out s H vs Q E g hr h => ?_)
  · obtain ⟨G, R, gs, rs, as, i, rfl, _⟩ := h
    rfl
  · obtain ⟨G, R, gs, rs, as, i, rfl, eG, eR, rows, l2, good, lr, hi, qy, qn⟩ := h
    have szl := sizeLine_eq
    have hr2 : Room 2 _ := hr
    have hr1 : Room 1 _ := hr.mono (by decide)
    have er : rs[i]? = some rs[i] := List.getElem?_eq_getElem hi
    generalize rs[i] = r at er
    have gr := good r (List.mem_of_getElem? er)
    obtain ⟨tr, etr, eat⟩ := pair_at rows er
    have wl := wo_le rs i
    have nd : KN.Needl rs i ↔ KN.Imp (KN.wo rs i) r := ⟨fun ⟨r', e', z⟩ => by rw [er] at e'; cases e'; exact z, fun z => ⟨r, er, z⟩⟩
    refine ⟨_, (pss_cons (ps_asg (pe_ix ix_list (pv 1) (pv 2) (fun _ _ => rfl)) (pg_tup rfl (pgs_cons (pg_name (i := 3) scJn.nd rfl (.inl rfl)) (pgs_cons (pg_name (i := 4) scJn.nd rfl (.inl rfl)) (pgs_cons (pg_name (i := 5) scJn.nd rfl (.inl rfl)) pgs_nil)))))
      (pss_cons (ps_set (i := 6) scJn.nd rfl (.inl rfl) (pe_op op_catL (pe_slice slcL (pv 1) po_none (po_some (pv 2))) (pe_slice slcL (pv 1) (po_some (pe_op op_add (pv 2) pe_int)) po_none)))
      (pss_cons (ps_if (pt_val (pe_has HG g hr2 (by rfl) (pa_cons (pv 0) (pa_cons (pv 6) pa_nil)))) (pss_one (ps_ret pe_bl)) pss_nil)
      (pss_cons (ps_set (i := 7) scJn.nd rfl (.inl rfl) (pe_has TT g hr1 (by rfl) (pa_cons (pv 0) (pa_cons (pv 6) pa_nil))))
      (pss_one (ps_ret (pe_and (pe_cmp (pc_oin (by have := hr.units; exact Nat.lt_of_le_of_lt (Nat.add_le_add_left (by decide) _) this) (pe_tupL (pa_cons (pv 3) (pa_cons (pv 4) pa_nil))) (pv 7)) rfl) (pe_one (pe_cmpR op_le (pe_oget (by have := hr.units; exact Nat.lt_of_le_of_lt (Nat.add_le_add_left (by decide) _) this) (pv 7) (pe_tupL (pa_cons (pv 3) (pa_cons (pv 4) pa_nil))) (fun _ _ => rfl)) (pv 5) (nomark _)))))))))), ?_⟩
    refine ⟨_, rfl, _, rfl, R, _, _, .ref tr, rfl, rfl, SqL.of eR, atI_map etr, ?_⟩
    refine ⟨tr, _, rfl, SqT.of eat, rfl, _, _, rfl, _, _, rfl, _, _, rfl, rfl, ?_⟩
    refine r_drop (i := i) rfl rfl eR rows hi (by omega) fun L bs H1 n1 e1 rows1 s1 => ?_
    refine ⟨_, rfl, _, rfl, rfl, rfl, G, L, gs, KN.wo rs i, bs, rfl, s1 _ _ eG, e1, rows1, l2, wo_good good, by omega, fun hg H2 s2 => ⟨_, rfl, iteT (qy (nd.mpr (.inl hg)) H2 (s1.trans s2))⟩, fun hg H2 s2 => ⟨_, rfl, iteF ?_⟩⟩
    have S2 := s1.trans s2
    refine ⟨_, rfl, _, rfl, rfl, rfl, G, L, gs, KN.wo rs i, bs, rfl, S2 _ _ eG, s2 _ _ e1, rows_same rows1 s2, l2, wo_good good, by omega, fun d f0 H3 nd3 td lt s3 => ?_⟩
    have S3 := S2.trans s3
    have le := lt.b.least (ptl_in (wo_good good)) hg (a := r.1) (b := r.2.1) (ptl_mem.mpr (in_pts gr.one))
    have im : KN.Needl rs i ↔ ∃ t, f0 r.1 r.2.1 = some t ∧ t ≤ r.2.2 := nd.trans (le.imp (c := r) hg)
    refine ⟨_, rfl, _, rfl, by show 2 ≤ sizeLine; decide, fun t1 H4 n4 e4 s4 => ?_⟩
    refine ⟨_, rfl, d, _, rfl, (td.same s4).get e4, ?_⟩
    cases hf : f0 r.1 r.2.1 with
    | none =>
      exact ⟨false, rfl, qn (fun z => by obtain ⟨t, e, _⟩ := im.mp z; rw [hf] at e; cases e) H4 (S3.trans s4)⟩
    | some s0 =>
      refine ⟨true, rfl, ?_⟩
      refine ⟨_, rfl, _, rfl, _, rfl, by show 2 ≤ sizeLine; decide, fun t2 H5 n5 e5 s5 => ?_⟩
      refine ⟨d, _, rfl, by rw [← show ((some s0 : Option Int).map V.int) = some (V.int s0) from rfl, ← hf]; exact ((td.same s4).same s5).get e5, _, rfl, s0, r.2.2, rfl, rfl, ?_⟩
      show Q (V.bl (decide (s0 ≤ r.2.2))) H5
      have S5 := (S3.trans s4).trans s5
      by_cases c0 : s0 ≤ r.2.2
      · rw [decide_eq_true c0]
        exact qy (im.mpr ⟨s0, hf, c0⟩) H5 S5
      · rw [decide_eq_false c0]
        exact qn (fun z => by obtain ⟨t, e, l⟩ := im.mp z; rw [hf] at e; cases e; exact c0 l) H5 S5
theorem ok_jlean {f : Addr} {fd : FuncData} (F : Fun K "_law_lean" "_law_lean" sJl f fd) (T : Bi mg) (JN : Has P w K mg base "_law_is_needless" 3 ["_law_goods", "_law_rows", "_law_at"] spJn) : FnG P w K mg base CX0 4 f fd ["_law_goods", "_law_rows"] spJl := by
  refine okG F scJl (fun vs H Q E h => ?_) (fun cdv A out s H vs Q E g hr h => ?_)
  · obtain ⟨G, R, gs, rs, as, rfl, _⟩ := h
    rfl
  · obtain ⟨G, R, gs, rs, as, rfl, eG, eR, rows, l2, good, lr, q⟩ := h
    have szl := sizeLine_eq
    have hr3 : Room 3 _ := hr
    refine ⟨_, (pss_cons (ps_set (i := 2) scJl.nd rfl (.inl rfl) (pe_callTy call_listL (by rfl) T.list (by decide +kernel) (pa_cons (pv 1) pa_nil)))
      (pss_cons (ps_for PassesOwn.never rfl (pi_range3 (by rfl) T.range (pa_cons (pe_op op_sub (pe_callB call_len_seq (by rfl) T.len PySem.boot_len (pa_cons (pv 1) pa_nil)) pe_int) (pa_cons (pe_un un_neg pe_int) (pa_cons (pe_un un_neg pe_int) pa_nil)))) (pg_name (i := 3) scJl.nd rfl (.inl rfl))
      (pss_one (ps_set (i := 2) scJl.nd rfl (.inl rfl) (pe_ifExp (pt_val (pe_has JN g hr3 (by rfl) (pa_cons (pv 0) (pa_cons (pv 2) (pa_cons (pv 3) pa_nil))))) (pe_op op_catL (pe_slice slcL (pv 2) po_none (po_some (pv 3))) (pe_slice slcL (pv 2) (po_some (pe_op op_add (pv 3) pe_int)) po_none)) (pv 2)))))
      (pss_one (ps_ret (pv 2))))), ?_⟩
    refine ⟨_, rfl, R, _, rfl, .inl (SqL.of eR), fun L0 H1 n1 e1 s1 => ?_⟩
    have la : (as.map V.ref).length = rs.length := by rw [List.length_map]; exact Paired.length rows
    refine ⟨_, rfl, R, _, rfl, .inl (SqL.of (s1 _ _ eR)), _, _, rfl, rfl, ?_⟩
    rw [la]
    have rg : RgC ((rs.length : Int) - 1) (-1) (-1) rs.length := by
      have z := RgC.neg (i := (rs.length : Int) - 1) (j := -1) (by omega) (by omega) (by omega) (by omega)
      have e : ((rs.length : Int) - 1 - -1).toNat = rs.length := by omega
      rw [e] at z
      exact z
    refine ⟨1, rfl, 1, rfl, _, _, _, rs.length, rfl, rg, ?_⟩
    refine for_rangeC (n := rs.length) (fun i σ' H' => ∃ (L' : Addr) (t : List Row) (as' : List Addr) (x3 : Option V), σ' = [some (.ref G), some (.ref R), some (.ref L'), x3] ∧ Same H H' ∧ H L' = none ∧ H' L' = some (.lst (as'.map V.ref)) ∧ RowsIn H' as' t ∧ (∀ c ∈ t, c ∈ rs) ∧ t.length ≤ rs.length ∧ rs.length ≤ t.length + i ∧
      KN.leanN (rs.length - i) t = KN.leanL rs) ?_ ?_ ?_
    · exact ⟨L0, rs, as, _, rfl, s1, n1, e1, rows_same rows s1, fun c h => h, Nat.le_refl _, by omega, rfl⟩
    · rintro i σ' H2 hi ⟨L', t, as', x3, rfl, s2, n2, e2, rows2, sub, lt1, lt2, el⟩
      obtain ⟨p, hp⟩ : ∃ p, p + 1 + i = rs.length := ⟨rs.length - 1 - i, by omega⟩
      have ev : (rs.length : Int) - 1 + (i : Nat) * (-1) = ((p : Nat) : Int) := by omega
      have hpt : p < t.length := by omega
      have ea : (rs.length - i) = p + 1 := by omega
      have ea2 : (rs.length - (i + 1)) = p := by omega
      rw [ea] at el
      have ev2 : [some (V.ref G), some (V.ref R), some (V.ref L'), x3].set 3 (some (V.int ((rs.length : Int) - 1 + (i : Nat) * (-1)))) = [some (V.ref G), some (V.ref R), some (V.ref L'), some (V.int ((p : Nat) : Int))] := by rw [ev]; rfl
      refine ⟨_, rfl, _, rfl, _, rfl, rfl, rfl, G, L', gs, t, as', p, by rw [← ev], s2 _ _ eG, e2, rows2, l2, fun r hr => good r (sub r hr), by omega, hpt, fun nd H3 s3 => ⟨_, rfl, iteT ?_⟩, fun nd H3 s3 => ⟨_, rfl, iteF ?_⟩⟩
      · rw [KN.leanN_yes nd] at el
        have wl := KN.wo_len hpt
        refine r_drop (i := p) rfl (by rw [← ev]; rfl) (s3 _ _ e2) (rows_same rows2 s3) hpt (by omega) fun L2 bs H4 n4 e4 rows4 s4 => ?_
        exact ⟨L2, KN.wo t p, bs, _, rfl, (s2.trans s3).trans s4, (s2.trans s3).free n4, e4, rows4, fun c h => sub c (KN.mem_wo h), by omega, by omega, by rw [ea2]; exact el⟩
      · rw [KN.leanN_no nd] at el
        exact ⟨_, rfl, L', t, as', _, rfl, s2.trans s3, n2, s3 _ _ e2, rows_same rows2 s3, sub, lt1, by omega, by rw [ea2]; exact el⟩
    · rintro σ' H2 ⟨L', t, as', x3, rfl, s2, n2, e2, rows2, sub, lt1, lt2, el⟩
      rw [Nat.sub_self] at el
      have el : t = KN.leanL rs := el
      subst el
      exact ⟨_, rfl, q L' as' H2 n2 e2 rows2 s2⟩
theorem ok_jalike {f : Addr} {fd : FuncData} (F : Fun K "_law_are_alike" "_law_are_alike" sJa f fd) (T : Bi mg) (TT : Has P w K mg base "_law_tight" 1 ["_law_goods", "_law_rows"] (spTt P w)) (HG : Has P w K mg base "_law_has_ring" 2 ["_law_goods", "_law_rows"] spHg) :
    FnG P w K mg base CX0 3 f fd ["_law_goods", "_law_rows", "_law_others_here"] spJa := by
  refine okG F scJa (fun vs H Q E h => ?_) (fun cdv A out s H vs Q E g hr h => ?_)
  · obtain ⟨G, R, S, gs, rs, ss, as, bs, rfl, _⟩ := h
    rfl
  · obtain ⟨G, R, S, gs, rs, ss, as, bs, rfl, eG, eR, rows, eS, rows', l2, good, good', lr, lr', qy, qn⟩ := h
    have szl := sizeLine_eq
    have hr2 : Room 2 _ := hr
    have hr1 : Room 1 _ := hr.mono (by decide)
    refine ⟨_, (pss_cons (ps_set (i := 3) scJa.nd rfl (.inl rfl) (pe_lstL (pa_cons (pe_has HG g hr2 (by rfl) (pa_cons (pv 0) (pa_cons (pv 1) pa_nil))) (pa_cons (pe_has HG g hr2 (by rfl) (pa_cons (pv 0) (pa_cons (pv 2) pa_nil))) pa_nil))))
      (pss_cons (ps_if (pt_val (pe_callB (cr_any (by rfl)) (by rfl) T.any (by decide +kernel) (pa_cons (pv 3) pa_nil))) (pss_one (ps_ret (pe_callB (cr_all (by rfl)) (by rfl) T.all (by decide +kernel) (pa_cons (pv 3) pa_nil)))) pss_nil)
      (pss_one (ps_ret (pe_cmpR (op_eq_PD (by have := hr.units; exact Nat.lt_of_le_of_lt (Nat.add_le_add_left (by decide) _) this)) (pe_has TT g hr1 (by rfl) (pa_cons (pv 0) (pa_cons (pv 1) pa_nil))) (pe_has TT g hr1 (by rfl) (pa_cons (pv 0) (pa_cons (pv 2) pa_nil))) (nomark _)))))), ?_⟩
    -- whether either has a ring
    have rest : ∀ (p q : Bool) (H1 : Hp), Same H H1 → (p = true ↔ KN.Ring rs) → (q = true ↔ KN.Ring ss) → ∀ (L : Addr) (H2 : Hp), Same H1 H2 → H2 L = some (.lst [.bl p, .bl q]) → (p || q) = true → Q (.bl (p && q)) H2 := by
      intro p q H1 s1 hp hq L H2 s2 e2 o
      cases p with
      | true =>
        have rp := hp.mp rfl
        cases q with
        | true => exact qy ((KN.alike_ring rp).mpr (hq.mp rfl)) H2 (s1.trans s2)
        | false => exact qn (fun z => by have := hq.mpr ((KN.alike_ring rp).mp z); cases this) H2 (s1.trans s2)
      | false =>
        cases q with
        | true => exact qn (fun z => by have := hp.mpr ((KN.alike_ring (hq.mp rfl)).mp z.symm); cases this) H2 (s1.trans s2)
        | false => cases o
    refine ⟨_, rfl, _, rfl, rfl, rfl, hg_go ⟨G, R, gs, rs, as, rfl, eG, eR, rows, l2, good, lr, fun p H1 hp s1 => ?_⟩⟩
    refine ⟨_, rfl, _, rfl, rfl, rfl, hg_go ⟨G, S, gs, ss, bs, rfl, s1 _ _ eG, s1 _ _ eS, rows_same rows' s1, l2, good', lr', fun q H2 hq s2 => ?_⟩⟩
    refine ⟨by show 2 ≤ sizeLine; decide, fun L H3 n3 e3 s3 => ?_⟩
    have S3 := (s1.trans s2).trans s3
    refine ⟨_, rfl, L, [p, q], rfl, SqL.of e3, _, rfl, ?_⟩
    have any2 : [p, q].any id = (p || q) := by cases p <;> cases q <;> rfl
    have all2 : [p, q].all id = (p && q) := by cases p <;> cases q <;> rfl
    rw [any2]
    refine ite2 (fun o => ?_) (fun o => ?_)
    · refine ⟨_, rfl, L, [p, q], rfl, SqL.of e3, ?_⟩
      show Q (V.bl ([p, q].all id)) H3
      rw [all2]
      exact rest p q H1 s1 hp hq L H3 (s2.trans s3) e3 o
    · have np : ¬ KN.Ring rs := fun z => o (by rw [hp.mpr z]; rfl)
      have nq : ¬ KN.Ring ss := fun z => o (by rw [hq.mpr z]; simp)
      refine ⟨_, rfl, _, rfl, rfl, rfl, G, R, gs, rs, as, rfl, S3 _ _ eG, S3 _ _ eR, rows_same rows S3, l2, good, lr, fun d f0 H4 nd td lt s4 => ?_⟩
      have S4 := S3.trans s4
      refine ⟨_, rfl, _, rfl, rfl, rfl, G, S, gs, ss, bs, rfl, S4 _ _ eG, S4 _ _ eS, rows_same rows' S4, l2, good', lr', fun d2 f2 H5 nd2 td2 lt2 s5 => ?_⟩
      obtain ⟨ks, pk, tk⟩ := td.same s5
      obtain ⟨ls, pl, tl⟩ := td2
      refine ⟨d, d2, ks, ls, rfl, rfl, pk, pl, fun x hx => ?_, fun x hx => ?_, ?_⟩
      · obtain ⟨a, b, i, e⟩ := tk.ent x hx
        exact ⟨i, by rw [e]⟩
      · obtain ⟨a, b, i, e⟩ := tl.ent x hx
        exact ⟨i, by rw [e]⟩
      have al : (∀ x y, f0 x y = f2 x y) ↔ KN.Alike rs ss := by
        have z := KN.alike_tabs (ptl_in good) (ptl_in good') np nq lt.b lt2.b
        refine Iff.trans ⟨fun h a _ b => h a b, fun h a b => ?_⟩ z
        by_cases m : a ∈ ptl gs
        · exact h a m b
        · cases h1 : f0 a b with
          | some t => exact absurd (lt.v a b t h1) m
          | none =>
            cases h2 : f2 a b with
            | some t => exact absurd (lt2.v a b t h2) m
            | none => rfl
      have te := (tabs_eq tk tl).trans al
      cases hb : (ks.length == ls.length && ks.all fun p => decide (valV ls p.1 = some p.2)) with
      | true => exact qy (te.mp hb) H5 (S4.trans s5)
      | false => exact qn (fun z => by rw [te.mpr z] at hb; cases hb) H5 (S4.trans s5)
end
end KM

set_option Elab.async false
set_option linter.all false
set_option maxRecDepth 100000
set_option maxHeartbeats 4000000
namespace KM
open PySem PySem.Spec PyProof.Rows L2 GL
/-! whether told changes keep conditions, by the law -/
abbrev sDk : Stmt := top 65
abbrev nDk : List Str := ["_law_rows", "_law_changes", "_law_good", "_law_whole", "_law_one", "_law_other", "_law_most"]
theorem scDk : FnScope nDk ["_law_rows", "_law_changes"] (defScope sDk) := ⟨rfl, rfl, rfl, by decide +kernel, rfl, by decide +kernel, by decide +kernel⟩
def spDk (R : Addr) : Sp := fun vs H Q _ => ∃ (B d : Addr) (gs : List Str) (rs : List Row) (as : List Addr) (g : Pt → Int), vs = [.ref B, .ref d] ∧ H B = some (.lst (as.map V.ref)) ∧ RowsIn H as rs ∧ gs.length ≤ 4 ∧ gs.Nodup ∧ GoodRows gs rs ∧ rs.length ≤ 30 ∧ RatD R H d gs g ∧ g none = 0 ∧ ∀ H', Same H H' → Q (.bl (decide (Kept g rs))) H'
/-- an entry that is right -/
def Gd (R : Addr) (H : Hp) (g : Pt → Int) (e : NK × V) : Prop := ∃ p a, e = (kO p, .ref a) ∧ RatAt R H a (g p)
theorem puts_gd {R : Addr} {H : Hp} {g : Pt → Int} : ∀ (kvs acc : List (NK × V)), (∀ e ∈ kvs, Gd R H g e) → (∀ k v, valV acc k = some v → Gd R H g (k, v)) → ∀ k v, valV (puts acc kvs) k = some v → Gd R H g (k, v)
  | [], acc, _, h, k, v, e => h k v e
  | x :: r, acc, h1, h2, k, v, e => by
    refine puts_gd r (putK acc x.1 x.2) (fun e he => h1 e (List.mem_cons_of_mem _ he)) (fun k' v' e' => ?_) k v e
    rw [valV_put] at e'
    by_cases c : k' = x.1
    · rw [if_pos c] at e'
      have e' := Option.some.inj e'
      subst e' c
      exact h1 x (List.mem_cons_self ..)
    · rw [if_neg c] at e'
      exact h2 k' v' e'
theorem puts_some {κ : Type} [DecidableEq κ] : ∀ (kvs acc : List (κ × V)) (k : κ), (k ∈ kvs.map (·.1) ∨ (valV acc k).isSome = true) → (valV (puts acc kvs) k).isSome = true
  | [], acc, k, h => h.elim (fun z => nomatch z) id
  | x :: r, acc, k, h => by
    refine puts_some r (putK acc x.1 x.2) k ?_
    by_cases c : k = x.1
    · refine .inr ?_
      rw [valV_put, if_pos c]
      rfl
    · rcases h with h | h
      · exact .inl ((List.mem_cons.mp h).resolve_left c)
      · refine .inr ?_
        rw [valV_put, if_neg c]
        exact h
theorem entries {K : PySem.W.Frag} {R : Addr} {H3 H7 : Hp} {g : Pt → Int} {tn z : Addr} : ∀ {ps : List Addr} {gs : List Str}, Paired (fun q x => ∃ a, H3 q = some (.tup [.str x, .ref a]) ∧ RatAt R H3 a (g (some x))) ps gs → Same H3 H7 → H7 tn = some (.tup [.non, .ref z]) → RatAt R H7 z (g none) →
    ∃ kvs : List (NK × V), Paired (fun p kv => SqT K H7 p [nV kv.1, kv.2]) (ps ++ [tn]) kvs ∧ (∀ e ∈ kvs, Gd R H7 g e) ∧ kvs.map (·.1) = (gs.map some ++ [none]).map kO
  | _, _, .nil, _, e, r => ⟨[((kO none : NK), V.ref z)], .cons (SqT.of e) .nil, fun x hx => by rw [List.mem_singleton.mp hx]; exact ⟨none, z, rfl, r⟩, rfl⟩
  | _, _, .cons (b := x) ⟨a, z1, z2⟩ t, s, e, r => by
    obtain ⟨kvs, h1, h2, h3⟩ := entries (K := K) t s e r
    refine ⟨(kO (some x), .ref a) :: kvs, .cons (SqT.of (s _ _ z1)) h1, fun y hy => ?_, by rw [List.map_cons, h3]; rfl⟩
    rcases List.mem_cons.mp hy with rfl | hy
    · exact ⟨some x, a, rfl, z2.same s⟩
    · exact h2 y hy
section
variable {P : Program} {w : World} {K : PySem.W.Frag} {mg : Str → Option Value} {base : Heap} {R : Addr}
theorem ok_dokeep {f : Addr} {fd : FuncData} (F : Fun K "_law_does_keep" "_law_does_keep" sDk f fd) (T : Bi mg) (C2 : Rc K mg R)
    (MK : HasC P w K mg base R 2 ["self", "top", "bottom"] (spRi R) 1 [] (fun vs _ => vs ++ [.int 1])) (AD : HasM P w K mg base R "__add__" 5 ["self", "other"] (spRa R fun i j => i + j)) (SB : HasM P w K mg base R "__sub__" 5 ["self", "other"] (spRa R fun i j => i - j)) (AM : HasM P w K mg base R "is_at_most" 5 ["self", "other"] (spAm R)) (SF : PySem.W.selfFirst K R = true) :
    FnG P w K mg base CX0 6 f fd ["_law_rows", "_law_changes"] (spDk R) := by
  refine okG F scDk (fun vs H Q E h => ?_) (fun cdv A out s H vs Q E g hr h => ?_)
  · obtain ⟨B, d, gs, rs, as, gg, rfl, _⟩ := h
    rfl
  · obtain ⟨B, d, gs, rs, as, gg, rfl, eB, rows, l2, gnd, good, lr, ⟨ad, ed, rt⟩, g0, q⟩ := h
    have hr5 : Room 5 _ := hr
    have hr3 : Room 3 _ := hr.mono (by decide)
    have szl := sizeLine_eq
    refine ⟨_, (pss_cons (ps_set (i := 3) scDk.nd rfl (.inr rfl) (pe_callTy (call_dictN rfl) (by rfl) T.dict (by decide +kernel) (pa_cons (pe_op op_catL (pe_lock (pe_lc (own := [("_law_good", 2)]) (g := gName 2) (tt := tYes) (te := tTupL (tCons (tVar 2) (tCons (tOp (rBinO R (spRa R fun i j => i + j) E0) (tDGet (tVar 1) (tVar 2)) (tNew R 1 ([] : List Str).length (spRi R) (fun vs _ => vs ++ [.int 1]) E0 (tCons (tC (.int 0)) tNil) tNil)) tNil))) (by rfl) scDk.nd (pi_keys (pv 1)) (blkOk_by (own := [("_law_good", 2)]) (N := nDk) (sc := defScope sDk) (by decide +kernel)) (fun _ _ _ _ _ => by exact (pg_name (i := 2) scDk.nd rfl (.inl rfl))) (fun _ _ _ _ _ => pts_nil) (fun _ _ _ _ _ => by exact (pe_tupL (pa_cons (pv 2) (pa_cons (pe_op (or_bin AD rfl rfl SF g hr5 ra_ref) (pe_dget (by have := hr.units; exact Nat.lt_of_le_of_lt (Nat.add_le_add_left (by decide) _) this) (pv 1) (pv 2) (fun _ _ => rfl)) (pe_hasC MK g hr3 (by rfl) C2.gR (pa_cons pe_int pa_nil) pk_nil)) pa_nil)))))) (pe_lstL (pa_cons (pe_tupL (pa_cons pe_non (pa_cons (pe_hasC MK g hr3 (by rfl) C2.gR (pa_cons pe_int pa_nil) pk_nil) pa_nil))) pa_nil))) pa_nil)))
      (pss_one (ps_ret (pe_callB (cr_all (by rfl)) (by rfl) T.all (by decide +kernel) (pa_cons (pe_lc (own := [("_law_one", 4), ("_law_other", 5), ("_law_most", 6)]) (g := gTup K 3 (gCons (gName 4) (gCons (gName 5) (gCons (gName 6) gNil)))) (tt := tYes) (te := tGoM R "is_at_most" 1 0 (spAm R) (fun vs _ => vs) E0 (tOp (rBinO R (spRa R fun i j => i - j) E0) (tOGet P w (tVar 3) (tVar 4)) (tOGet P w (tVar 3) (tVar 5))) (tCons (tVar 6) tNil) tNil) (by rfl) scDk.nd (pi_list (pv 0)) (blkOk_by (own := [("_law_one", 4), ("_law_other", 5), ("_law_most", 6)]) (N := nDk) (sc := defScope sDk) (by decide +kernel)) (fun _ _ _ _ _ => by exact (pg_tup rfl (pgs_cons (pg_name (i := 4) scDk.nd rfl (.inl rfl)) (pgs_cons (pg_name (i := 5) scDk.nd rfl (.inl rfl)) (pgs_cons (pg_name (i := 6) scDk.nd rfl (.inl rfl)) pgs_nil))))) (fun _ _ _ _ _ => pts_nil) (fun _ _ _ _ _ => by exact (pe_hasM (n := 1) AM C2.cl g hr5 rfl (pe_op (or_bin SB rfl rfl SF g hr5 ra_ref) (pe_oget (by have := hr.units; exact Nat.lt_of_le_of_lt (Nat.add_le_add_left (by decide) _) this) (pv 3) (pv 4) (fun _ _ => rfl)) (pe_oget (by have := hr.units; exact Nat.lt_of_le_of_lt (Nat.add_le_add_left (by decide) _) this) (pv 3) (pv 5) (fun _ _ => rfl))) (pa_cons (pv 6) pa_nil)))) pa_nil))))), ?_⟩
    refine ⟨d, _, ed, trivial, fun od => ?_⟩
    have eF : (upd H d (.frz od (.dK (gs.map fun x => ((Sum.inr x : L2.Key), V.ref (ad x)))))) d = some (.frz od (.dK (gs.map fun x => ((Sum.inr x : L2.Key), V.ref (ad x))))) := upd_same
    have rtF : ∀ x ∈ gs, RatAt R (upd H d (.frz od (.dK (gs.map fun x => ((Sum.inr x : L2.Key), V.ref (ad x)))))) (ad x) (gg (some x)) := fun x hx => by
      obtain ⟨dy, e⟩ := rt x hx
      exact ⟨dy, by rw [upd_ne (ne_of e ed (by intro z; cases z))]; exact e⟩
    have unl : ∀ {H' : Hp}, Same (upd H d (.frz od (.dK (gs.map fun x => ((Sum.inr x : L2.Key), V.ref (ad x)))))) H' → Same H (upd H' d (.dK (gs.map fun x => ((Sum.inr x : L2.Key), V.ref (ad x))))) := fun {H'} z => same_unlock ed z
    generalize upd H d (.frz od (.dK (gs.map fun x => ((Sum.inr x : L2.Key), V.ref (ad x))))) = HF at eF rtF unl
    refine ⟨_, rfl, d, od, rfl, .inl ⟨_, eF, ?_⟩⟩
    intro L nL
    refine lc_it (walk_keys (d := d) (o := od) (kvs := gs.map fun x => ((Sum.inr x : L2.Key), V.ref (ad x)))) (fun i H' => Same HF H' ∧ ∃ ps : List Addr, H' L = some (.lst (ps.map V.ref)) ∧ Paired (fun q x => ∃ a, H' q = some (.tup [.str x, .ref a]) ∧ RatAt R H' a (gg (some x))) ps (gs.take i) ∧ ps.length ≤ i) ⟨same_new (Same.refl' _) nL, [], upd_same, .nil, Nat.le_refl _⟩ (fun i H' _ ⟨z, _⟩ => z _ _ eF) ?_ ?_
    · rintro i x H2 H3 hi ⟨s2, ps, e2, pr, lp⟩ ⟨rfl, k, v, ek, rfl⟩
      rw [List.length_map] at hi
      have ei : (gs.map fun x => ((Sum.inr x : L2.Key), V.ref (ad x)))[i]? = some (Sum.inr gs[i], V.ref (ad gs[i])) := by
        rw [List.getElem?_map, List.getElem?_eq_getElem hi]
        rfl
      have hx : gs[i]? = some gs[i] := List.getElem?_eq_getElem hi
      have mx : gs[i] ∈ gs := List.getElem_mem hi
      generalize gs[i] = y at ei hx mx
      rw [ei] at ek
      cases ek
      refine ⟨rfl, yes_go ?_⟩
      have ry := (rtF y mx).same s2
      obtain ⟨dy, ey⟩ := id ry
      refine ⟨_, rfl, _, rfl, _, rfl, d, .ref (ad y), rfl, ?_, ?_⟩
      · refine .inl ⟨_, Sum.inr y, .inr ⟨od, s2 _ _ eF⟩, rfl, ?_⟩
        rw [strs_val mx]
      refine ⟨rfl, rfl, ?_⟩
      refine q_rat fun z H4 nz rz s4 => ?_
      obtain ⟨dz, ez⟩ := id rz
      refine ⟨ad y, dy, _, z, dz, _, rfl, rfl, s4 _ _ ey, ez, ad y, z, gg (some y), 0, rfl, ry.same s4, rz, fun z2 H5 nz2 rz2 s5 => ?_⟩
      refine ⟨by show 2 ≤ sizeLine; decide, fun t H6 n6 e6 s6 => ?_⟩
      have s36 := (s4.trans s5).trans s6
      have eL6 := s36 _ _ e2
      have rz2 : RatAt R H5 z2 (gg (some y)) := by
        have z := rz2
        dsimp only at z
        rw [Int.add_zero] at z
        exact z
      have keep : ∀ {a : Addr} {o : HO}, H6 a = some o → (∀ xs, o ≠ .lst xs) → (upd H6 L (.lst (ps.map V.ref ++ [.ref t]))) a = some o := fun {a o} e no => by rw [upd_ne (ne_of e eL6 (no _))]; exact e
      have keepR : ∀ {a : Addr} {i : Int}, RatAt R H6 a i → RatAt R (upd H6 L (.lst (ps.map V.ref ++ [.ref t]))) a i := fun {a i} ⟨dq, e⟩ => ⟨dq, keep e fun xs z => by cases z⟩
      refine ⟨_, eL6, by rw [List.length_map]; exact small1000 (by omega), same_but (s2.trans s36) But.refl.upd nL, ps ++ [t], by rw [upd_same]; simp, ?_, by simp; omega⟩
      rw [take_more hx]
      have app : ∀ {as bs : List Addr} {l m : List Str} {H' : Hp}, Paired (fun q x => ∃ a, H' q = some (.tup [.str x, .ref a]) ∧ RatAt R H' a (gg (some x))) as l → Paired (fun q x => ∃ a, H' q = some (.tup [.str x, .ref a]) ∧ RatAt R H' a (gg (some x))) bs m → Paired (fun q x => ∃ a, H' q = some (.tup [.str x, .ref a]) ∧ RatAt R H' a (gg (some x))) (as ++ bs) (l ++ m) := by
        intro as bs l m H' h1 h2
        induction h1 with
        | nil => exact h2
        | cons a _ ih => exact .cons a ih
      refine app (Paired.mapP pr fun q x ⟨a, z1, z2⟩ => ⟨a, keep (s36 _ _ z1) (fun xs z => by cases z), keepR (z2.same s36)⟩) (.cons ⟨z2, keep e6 (fun xs z => by cases z), keepR (rz2.same s6)⟩ .nil)
    rintro H2 ⟨s2, ps, e2, pr, lp⟩
    refine ⟨s2 _ _ eF, ?_⟩
    have edF := s2 _ _ eF
    rw [List.length_map, List.take_length] at pr
    rw [List.length_map] at lp
    have su := unl s2
    have e3 : (upd H2 d (.dK (gs.map fun x => ((Sum.inr x : L2.Key), V.ref (ad x))))) L = some (.lst (ps.map V.ref)) := by rw [upd_ne (ne_of e2 edF (by intro z; cases z))]; exact e2
    have pr3 : Paired (fun q x => ∃ a, (upd H2 d (.dK (gs.map fun x => ((Sum.inr x : L2.Key), V.ref (ad x))))) q = some (.tup [.str x, .ref a]) ∧ RatAt R (upd H2 d (.dK (gs.map fun x => ((Sum.inr x : L2.Key), V.ref (ad x))))) a (gg (some x))) ps gs := Paired.mapP pr fun q x ⟨a, z1, dq, z2⟩ => ⟨a, by rw [upd_ne (ne_of z1 edF (by intro z; cases z))]; exact z1, dq, by rw [upd_ne (ne_of z2 edF (by intro z; cases z))]; exact z2⟩
    generalize upd H2 d (.dK (gs.map fun x => ((Sum.inr x : L2.Key), V.ref (ad x)))) = H3 at su e3 pr3
    -- + [(None, Ratio(0))]
    refine ⟨rfl, rfl, ?_⟩
    refine q_rat fun z H4 nz rz s4 => ?_
    refine ⟨by show 2 ≤ sizeLine; decide, fun tn H5 n5 e5 s5 => ⟨by show 1 ≤ sizeLine; decide, fun l1 H6 n6 e6 s6 => ?_⟩⟩
    have s36 := (s4.trans s5).trans s6
    refine ⟨L, l1, _, _, rfl, rfl, s36 _ _ e3, e6, by rw [List.length_map]; show ps.length + 1 ≤ sizeLine; omega, fun L2 H7 n7 e7 s7 => ?_⟩
    have S7 := s36.trans s7
    have pr7 := entries (K := K) (g := gg) pr3 S7 (s7 _ _ (s6 _ _ e5)) (by rw [g0]; exact ((rz.same s5).same s6).same s7 : RatAt R H7 z (gg none))
    obtain ⟨kvs, hk, hg, hkeys⟩ := pr7
    have e7' : H7 L2 = some (.lst ((ps ++ [tn]).map V.ref)) := by rw [e7]; simp
    refine ⟨L2, ps ++ [tn], kvs, rfl, SqL.of e7', hk, fun W H8 n8 e8 s8 => ?_⟩
    have told : ∀ p ∈ pts gs, ∃ a, valV (puts [] kvs) (kO p) = some (.ref a) ∧ RatAt R H8 a (gg p) := fun p hp => by
      have m : kO p ∈ kvs.map (·.1) := by
        rw [hkeys]
        exact List.mem_map.mpr ⟨p, ptl_mem.mpr hp, rfl⟩
      have s := puts_some kvs [] (kO p) (.inl m)
      obtain ⟨v, hv⟩ := Option.isSome_iff_exists.mp s
      obtain ⟨p', a, e, r⟩ := puts_gd kvs [] hg (fun k v e => by cases e) (kO p) v hv
      injection e with e1 e2
      have e1 := kO_inj e1
      subst e1 e2
      exact ⟨a, hv, r.same s8⟩
    have S8 := (su.trans S7).trans s8
    refine ⟨_, rfl, B, rfl, ⟨_, SqL.of (S8 _ _ eB)⟩, fun L3 nL3 => ?_⟩
    have la : (as.map V.ref).length = rs.length := by rw [List.length_map]; exact Paired.length rows
    refine lc_it (walk_list (K := K) (a := B) (xs := as.map V.ref)) (fun i H' => Same H8 H' ∧ ∃ bs : List Bool, H' L3 = some (.lst (bs.map V.bl)) ∧ bs.length ≤ i ∧ (bs.all id = true ↔ Kept gg (rs.take i))) ⟨same_new (Same.refl' _) nL3, [], upd_same, Nat.le_refl _, by simp⟩ (fun i H' _ ⟨z, _⟩ => SqL.of (z _ _ (S8 _ _ eB))) ?_ ?_
    · rintro i x J1 J2 hi ⟨s9, bs, e9, lb, iff9⟩ ⟨rfl, hx⟩
      obtain ⟨tr, r, rfl, er, et⟩ := rows_at (rows_same rows (S8.trans s9)) hx
      have gr := good r (List.mem_of_getElem? er)
      rw [la] at hi
      refine ⟨tr, _, rfl, SqT.of et, rfl, _, _, rfl, _, _, rfl, _, _, rfl, rfl, rfl, yes_go ?_⟩
      obtain ⟨a1, v1, r1⟩ := told r.1 (in_pts gr.one)
      obtain ⟨a2, v2, r2⟩ := told r.2.1 (in_pts gr.two)
      have r1 := r1.same s9
      have r2 := r2.same s9
      obtain ⟨d1, x1⟩ := id r1
      obtain ⟨d2, x2⟩ := id r2
      refine ⟨_, rfl, _, rfl, W, _, rfl, .inl ⟨_, kO r.1, s9 _ _ e8, (nV_kO _).symm, v1.symm⟩, _, rfl, _, rfl, W, _, rfl, .inl ⟨_, kO r.2.1, s9 _ _ e8, (nV_kO _).symm, v2.symm⟩, ?_⟩
      refine ⟨a1, d1, _, a2, d2, _, rfl, rfl, x1, x2, a1, a2, gg r.1, gg r.2.1, rfl, r1, r2, fun z2 J3 n3 rz3 s10 => ?_⟩
      obtain ⟨d3, x3⟩ := id rz3
      refine ⟨z2, d3, _, rfl, x3, rfl_o (by decide +kernel) (by decide +kernel), _, rfl, rfl, rfl, z2, gg r.1 - gg r.2.1, r.2.2, rfl, rz3, fun J4 s11 => ?_⟩
      have e11 := s11 _ _ (s10 _ _ e9)
      refine ⟨_, e11, by rw [List.length_map]; exact small1000 (by omega), same_but ((s9.trans s10).trans s11) But.refl.upd nL3, bs ++ [decide (gg r.1 - gg r.2.1 ≤ r.2.2)], by rw [upd_same]; simp, by simp; omega, ?_⟩
      rw [take_more er, List.all_append, Bool.and_eq_true, iff9]
      constructor
      · rintro ⟨h1, h2⟩ c hc
        rcases List.mem_append.mp hc with hc | hc
        · exact h1 c hc
        · rw [List.mem_singleton.mp hc]
          have h2 : decide (gg r.1 - gg r.2.1 ≤ r.2.2) = true := by simpa using h2
          exact of_decide_eq_true h2
      · intro h
        refine ⟨fun c hc => h c (List.mem_append_left _ hc), ?_⟩
        have := h r (List.mem_append_right _ (List.mem_singleton.mpr rfl))
        simpa using this
    · rintro J1 ⟨s9, bs, e9, lb, iff9⟩
      rw [la, List.take_of_length_le (Nat.le_refl _)] at iff9
      refine ⟨L3, bs, rfl, SqL.of e9, ?_⟩
      show Q (V.bl (bs.all id)) J1
      have z : bs.all id = decide (Kept gg rs) := by
        cases hb : bs.all id with
        | true => exact (decide_eq_true (iff9.mp hb)).symm
        | false => exact (decide_eq_false fun z => by rw [iff9.mpr z] at hb; cases hb).symm
      rw [z]
      exact q J1 (S8.trans s9)
end
end KM

set_option Elab.async false
set_option linter.all false
set_option maxRecDepth 100000
set_option maxHeartbeats 4000000
namespace KM
open PySem PySem.Spec PyProof.Rows L2 GL
/-! the needless and the lean ones against the law's -/
abbrev sNr : Stmt := top 64
abbrev nNr : List Str := ["_law_moves", "_law_goods", "_law_rows", "_law_at", "_law_due", "_law_left", "_law_turn", "_law_told", "_law_less"]
theorem scNr : FnScope nNr ["_law_moves", "_law_goods", "_law_rows"] (defScope sNr) := ⟨rfl, rfl, rfl, by decide +kernel, rfl, by decide +kernel, by decide +kernel⟩
def spNr (C : Addr) : Sp := fun vs H Q _ => ∃ (m G B : Addr) (gs : List Str) (rs : List Row) (as : List Addr), vs = [.ref m, .ref G, .ref B] ∧ MovesAt C H m gs rs ∧ Fit gs rs ∧ LowR rs ∧ H G = some (.lst (gs.map V.str)) ∧ H B = some (.lst (as.map V.ref)) ∧ RowsIn H as rs ∧ ∀ H', Same H H' → Q (.bl true) H'
theorem if_join {c : Bool} {a b : TE} {σ : L2.St} {H : Hp} {Qv : V → Hp → Prop} (P : V → Hp → Prop) (hQ : ∀ v Hx, P v Hx → Qv v Hx) (ha : (∀ v Hx, P v Hx → Qv v Hx) → a σ H Qv) (hb : (∀ v Hx, P v Hx → Qv v Hx) → b σ H Qv) : if c = true then a σ H Qv else b σ H Qv := by
  cases c with
  | false => exact iteF (hb hQ)
  | true => exact iteT (ha hQ)
def natsD (l : List Nat) : PyData := .list (l.map fun k => PyData.int (k : Nat))
theorem dp_natsAll {K : PySem.W.Frag} {H : Hp} : ∀ l : List Nat, DpAll K H (l.map fun k => V.int (k : Nat)) (l.map fun k => PyData.int (k : Nat))
  | [] => .nil
  | k :: r => .cons (.int _) (dp_natsAll r)
theorem dp_nats {K : PySem.W.Frag} {H : Hp} {L : Addr} {l : List Nat} (e : SqL K H L (l.map fun k => V.int (k : Nat))) : Dp K H (.ref L) (natsD l) := .lst e (dp_natsAll l)
theorem needs_lt {rs : List Row} {k : Nat} (h : k ∈ KN.needs rs) : k < rs.length := List.mem_range.mp (List.mem_filter.mp h).1
theorem needs_len {rs : List Row} : (KN.needs rs).length ≤ rs.length := by
  unfold KN.needs
  refine Nat.le_trans (List.length_filter_le _ _) ?_
  rw [List.length_range]
  exact Nat.le_refl _
theorem sh_needs {rs : List Row} (h : rs.length ≤ 30) : Shows (natsD (KN.needs rs)) := by
  have z := sh_list (fun k : Nat => PyData.int (k : Nat)) (KN.needs rs) (n := 4) (k := 0) fun k hk => sh_int (by have := needs_lt hk; omega)
  have l := needs_len (rs := rs)
  exact z.shows (by omega) (by decide)
theorem shaped_nats (l : List Nat) : SeqAt.shaped (natsD l) = true :=
  shaped_of (layAll_map (fun k : Nat => PyData.int (k : Nat)) l fun _ _ => rfl) (by
    show PyData.depthAll (l.map fun k => PyData.int (k : Nat)) + 1 ≤ 64
    have := depthAll_map (fun k : Nat => PyData.int (k : Nat)) 0 l fun _ _ => Nat.le_refl _
    omega)
theorem lean_fit {gs : List Str} {rs : List Row} (h : Fit gs rs) : Fit gs (KN.leanL rs) := ⟨h.g, h.s, fun r hr => h.r r (KN.leanN_sub _ _ r hr), Nat.le_trans (KN.leanN_len _ _) h.n⟩
theorem lean_low {rs : List Row} (h : LowR rs) : LowR (KN.leanL rs) := fun r hr => h r (KN.leanN_sub _ _ r hr)
section
variable {P : Program} {w : World} {K : PySem.W.Frag} {mg : Str → Option Value} {base : Heap} {C D R : Addr}
theorem ok_needright {f : Addr} {fd : FuncData} (F : Fun K "_law_needless_right" "_law_needless_right" sNr f fd) (T : Bi mg) (M : Mv P w K mg base C)
    (JN : Has P w K mg base "_law_is_needless" 3 ["_law_goods", "_law_rows", "_law_at"] spJn) (JL : Has P w K mg base "_law_lean" 4 ["_law_goods", "_law_rows"] spJl)
    (ND : Has P w K mg base "needless" 5 ["moves"] (spNd C)) (NDK : HasK P w K mg base "needless" 5 ["moves"] (spNd C) ["moves"] (fun _ zs => zs)) (LE : Has P w K mg base "lean" 8 ["moves"] (spLn C)) (LEK : HasK P w K mg base "lean" 8 ["moves"] (spLn C) ["moves"] (fun _ zs => zs))
    (AL : Has P w K mg base "are_alike" 6 ["one", "other"] (spAl C)) (PA0 : Has P w K mg base "parting" 5 ["one", "other"] (spPa C R)) :
    FnG P w K mg base CX0 9 f fd ["_law_moves", "_law_goods", "_law_rows"] (spNr C) := by
  refine okG F scNr (fun vs H Q E h => ?_) (fun cdv A out s H vs Q E g hr h => ?_)
  · obtain ⟨m, G, B, gs, rs, as, rfl, _⟩ := h
    rfl
  · obtain ⟨m, G, B, gs, rs, as, rfl, hm, fit, low, eG, eB, rows, q⟩ := h
    have hr8 : Room 8 _ := hr
    have hr7 : Room 7 _ := hr.mono (by decide)
    have hr6 : Room 6 _ := hr.mono (by decide)
    have hr5 : Room 5 _ := hr.mono (by decide)
    have hr4 : Room 4 _ := hr.mono (by decide)
    have hr3 : Room 3 _ := hr.mono (by decide)
    have hr2 : Room 2 _ := hr.mono (by decide)
    have hr1 : Room 1 _ := hr.mono (by decide)
    have hu := hr.units
    have ln := fit.n
    have l2 := fit.g.l2
    have szl := sizeLine_eq
    have la : (as.map V.ref).length = rs.length := by rw [List.length_map]; exact Paired.length rows
    have sn := sh_needs (rs := rs) (by omega)
    have lf := lean_fit fit
    have sl : Shows (rowsD (KN.leanL rs)) := (sh_rows lf.g lf.r).shows (by have := lf.n; omega) (by decide)
    refine ⟨_, (pss_cons (ps_setLc (i := 4) (own := [("_law_at", 3)]) (g := gName 3) (tt := tB (tGo (["_law_goods", "_law_rows", "_law_at"] : List Str).length 0 spJn (fun vs _ => vs) E0 (tCons (tVar 1) (tCons (tVar 2) (tCons (tVar 3) tNil))) tNil)) (te := tVar 3) rfl scNr.nd rfl rfl (sw_true rfl rfl rfl (by decide +kernel)) (pi_range1 (by rfl) T.range (pa_cons (pe_callB call_len_seq (by rfl) T.len PySem.boot_len (pa_cons (pv 2) pa_nil)) pa_nil)) (blkOk_by (own := [("_law_at", 3)]) (N := nNr) (sc := defScope sNr) (by decide +kernel)) (fun _ _ _ _ _ => by exact (pg_name (i := 3) scNr.nd rfl (.inl rfl))) (fun _ _ _ _ _ => by exact (pts_one (pt_val (pe_has JN g hr3 (by rfl) (pa_cons (pv 1) (pa_cons (pv 2) (pa_cons (pv 3) pa_nil))))))) (fun _ _ _ _ _ => by exact (pv 3)))
      (pss_cons (ps_set (i := 5) scNr.nd rfl (.inl rfl) (pe_has JL g hr4 (by rfl) (pa_cons (pv 1) (pa_cons (pv 2) pa_nil))))
      (pss_cons (ps_for PassesOwn.never rfl (pi_range1 (by rfl) T.range (pa_cons pe_int pa_nil)) (pg_name (i := 6) scNr.nd rfl (.inl rfl))
      (pss_cons (ps_set (i := 7) scNr.nd rfl (.inl rfl) (pe_ifExp (pt_cmpR op_eq (pv 6) pe_int (nomark _)) (pe_has ND g hr5 (by rfl) (pa_cons (pv 0) pa_nil)) (pe_hasK NDK g hr5 (by rfl) (pk_cons (pv 0) pk_nil))))
      (pss_cons (ps_if (pt_cmpR op_ne (pe_callB (call_repr_D g hu) (by rfl) T.repr (by decide +kernel) (pa_cons (pv 7) pa_nil)) (pe_callB (call_repr_D g hu) (by rfl) T.repr (by decide +kernel) (pa_cons (pv 4) pa_nil)) (nomark _)) (pss_one (ps_ret pe_bl)) pss_nil)
      (pss_cons (ps_expr (pe_bm PySem.F.plainAttrs_list PySem.F.slot_list_append PySem.F.type_list_append mt_appL (pv 7) (pa_cons pe_int pa_nil)))
      (pss_cons (ps_set (i := 8) scNr.nd rfl (.inl rfl) (pe_ifExp (pt_cmpR op_eq (pv 6) pe_int (nomark _)) (pe_has LE g hr8 (by rfl) (pa_cons (pv 0) pa_nil)) (pe_hasK LEK g hr8 (by rfl) (pk_cons (pv 0) pk_nil))))
      (pss_one (ps_if (PW.pt (pw_or (pt_cmpR (or_ne M.eq M.eqc g hr2) (pv 8) (pe_hasC M.mk2 g hr7 (by rfl) M.gM (pa_cons (pv 1) (pa_cons (pv 5) pa_nil)) pk_nil) (nomark _)) (pw_or1 (pt_cmpR op_ne (pe_callB (call_repr_D g hu) (by rfl) T.repr (by decide +kernel) (pa_cons (pe_hasM0 M.conds M.cl g hr1 rfl (pv 8)) pa_nil)) (pe_callB (call_repr_D g hu) (by rfl) T.repr (by decide +kernel) (pa_cons (pv 5) pa_nil)) (nomark _))))) (pss_one (ps_ret pe_bl)) pss_nil)))))))
      (pss_cons (ps_set (i := 8) scNr.nd rfl (.inl rfl) (pe_has LE g hr8 (by rfl) (pa_cons (pv 0) pa_nil)))
      (pss_cons (ps_if (PW.pt (pw_or (pt_cmpR (op_neD hu) (pe_has ND g hr5 (by rfl) (pa_cons (pv 8) pa_nil)) (pe_lstL pa_nil) (nomark _)) (pw_or1 (pt_cmpR (or_ne M.eq M.eqc g hr2) (pe_has LE g hr8 (by rfl) (pa_cons (pv 8) pa_nil)) (pv 8) (nomark _))))) (pss_one (ps_ret pe_bl)) pss_nil)
      (pss_one (ps_ret (pe_and (pe_cmpR op_is_bl (pe_has AL g hr6 (by rfl) (pa_cons (pv 8) (pa_cons (pv 0) pa_nil))) pe_bl (nomark _)) (pe_one (pe_cmpR op_isN (pe_has PA0 g hr5 (by rfl) (pa_cons (pv 0) (pa_cons (pv 8) pa_nil))) pe_non (nomark _))))))))))), ?_⟩
    refine ⟨_, rfl, B, _, rfl, .inl (SqL.of eB), _, rfl, by omega, by omega, fun U nU => ?_⟩
    rw [la]
    refine lc_it (walk_range (lo := 0) (n := ((rs.length : Nat) : Int).toNat)) (fun i H' => Same H H' ∧ H' U = some (.lst (((List.range i).filter (KN.nb rs)).map fun k => V.int (k : Nat)))) ⟨same_new (Same.refl' _) nU, upd_same⟩ (fun _ _ _ _ => True.intro) ?_ ?_
    · rintro i x H1 H2 hi ⟨s1, e1⟩ ⟨rfl, rfl⟩
      have hi : i < rs.length := by omega
      have e0 : (0 : Int) + (i : Nat) = (i : Nat) := by omega
      refine ⟨rfl, ?_⟩
      have lf : ((List.range i).filter (KN.nb rs)).length ≤ 30 := by
        refine Nat.le_trans (List.length_filter_le _ _) ?_
        rw [List.length_range]
        omega
      refine ⟨_, rfl, _, rfl, _, rfl, rfl, rfl, G, B, gs, rs, as, i, by dsimp only; rw [e0], s1 _ _ eG, s1 _ _ eB, rows_same rows s1, l2, fit.r, by omega, hi, fun nd H3 s3 => ⟨_, rfl, iteT ?_⟩, fun nd H3 s3 => ⟨_, rfl, iteF ?_⟩⟩
      · refine ⟨_, rfl, _, s3 _ _ e1, by rw [List.length_map]; exact small1000 (by omega), same_but (s1.trans s3) But.refl.upd nU, ?_⟩
        rw [upd_same, KN.needs_step, if_pos (KN.nb_yes nd), List.map_append]
        dsimp only
        rw [e0]
        rfl
      · refine ⟨s1.trans s3, ?_⟩
        rw [KN.needs_step, KN.nb_no nd, if_neg (by decide)]
        exact s3 _ _ e1
    rintro H1 ⟨s1, eU⟩
    have eU : H1 U = some (.lst ((KN.needs rs).map fun k => V.int (k : Nat))) := eU
    refine ⟨_, rfl, _, rfl, rfl, rfl, G, B, gs, rs, as, rfl, s1 _ _ eG, s1 _ _ eB, rows_same rows s1, l2, fit.r, by omega, fun L bs H2 nL eL rowsL s2 => ?_⟩
    have S2 := s1.trans s2
    have nL0 := s1.free nL
    have lb : (bs.map V.ref).length = (KN.leanL rs).length := by rw [List.length_map]; exact Paired.length rowsL
    -- for turn in range(2)
    refine ⟨2, rfl, by decide, by decide, ?_⟩
    refine for_range (n := 2) (fun i σ H' => ∃ x3 x6 x7 x8, σ = [some (.ref m), some (.ref G), some (.ref B), x3, some (.ref U), some (.ref L), x6, x7, x8] ∧ Same H2 H') ?_ ?_ ?_
    · exact ⟨_, _, _, _, rfl, Same.refl' _⟩
    · rintro i σ Hc hi ⟨x3, x6, x7, x8, rfl, sc⟩
      have S3 := S2.trans sc
      refine ⟨_, rfl, rfl, _, rfl, ?_⟩
      refine if_join (fun v Hx => ∃ t, v = .ref t ∧ Hc t = none ∧ Hx t = some (.lst ((KN.needs rs).map fun k => V.int (k : Nat))) ∧ Same Hc Hx) ?_ ?_ ?_
      · rintro v H3 ⟨t, rfl, nt, et, st⟩
        refine ⟨_, rfl, t, _, rfl, dp_nats (SqL.of et), sn, _, rfl, U, _, rfl, dp_nats (SqL.of ((sc.trans st) _ _ (s2 _ _ eU))), sn, rfl, _, rfl, ?_⟩
        simp only [decide_true, Bool.not_true]
        refine iteF ?_
        refine ⟨_, rfl, .inl ⟨rfl, _, SqL.of et⟩, t, _, .int 99, rfl, rfl, et, by rw [List.length_map]; have := needs_len (rs := rs); exact small1000 (by omega), fun H4 e4 b4 => ?_⟩
        have s4 : Same Hc H4 := same_but st b4 nt
        have S4 := S3.trans s4
        refine ⟨_, rfl, rfl, _, rfl, ?_⟩
        refine if_join (fun v Hx => ∃ t, v = .ref t ∧ MovesNew C H4 Hx t gs (KN.leanL rs) ∧ Same H4 Hx) ?_ ?_ ?_
        · rintro v H5 ⟨x, rfl, mx, s5⟩
          have mxa := mx.at
          have S5 := S4.trans s5
          have T5 := (sc.trans s4).trans s5
          refine ⟨_, rfl, _, rfl, _, rfl, rfl, rfl, ?_⟩
          refine q_new (K := K) (.inl (SqL.of (S5 _ _ eG))) (.inl (SqL.of (T5 _ _ eL))) (rows_same rowsL T5) fit.g lf.r lf.n fun y hs H6 ny pm fy my s6 => ?_
          have ehs : hs = gs := sorted_one pm fy.s fit.s
          subst ehs
          refine q_ne (K := K) (mxa.same s6) lf my.at fy fun H7 s7 => ⟨_, rfl, ?_⟩
          simp only [and_self, decide_true, Bool.not_true]
          refine iteF ?_
          have mx7 := (mxa.same s6).same s7
          obtain ⟨dz, fz, ez, lz⟩ := mx7.ins
          refine ⟨_, rfl, x, dz, fz, rfl, ez, lz _ (by decide +kernel) (by decide +kernel), rfl, rfl, x, _, _, rfl, mx7, fun Z zs H8 n8 e8 rows8 s8 => ?_⟩
          have T8 := ((T5.trans s6).trans s7).trans s8
          refine ⟨Z, _, rfl, dp_rows rows8 (SqL.of e8), sl, _, rfl, L, _, rfl, dp_rows (rows_same rowsL T8) (SqL.of (T8 _ _ eL)), sl, rfl, _, rfl, ?_⟩
          simp only [decide_true, Bool.not_true]
          refine iteF ?_
          exact ⟨_, _, _, _, rfl, T8⟩
        · intro k
          refine ⟨_, rfl, rfl, rfl, m, gs, rs, rfl, hm.same S4, fit, fun x H5 nx mx s5 => k _ _ ⟨x, rfl, mx, s5⟩⟩
        · intro k
          refine ⟨_, rfl, rfl, rfl, m, gs, rs, rfl, hm.same S4, fit, fun x H5 nx mx s5 => k _ _ ⟨x, rfl, mx, s5⟩⟩
      · intro k
        refine ⟨_, rfl, rfl, rfl, m, gs, rs, rfl, hm.same S3, fit, fun t H3 nt et st => k _ _ ⟨t, rfl, nt, et, st⟩⟩
      · intro k
        refine ⟨_, rfl, rfl, rfl, m, gs, rs, rfl, hm.same S3, fit, fun t H3 nt et st => k _ _ ⟨t, rfl, nt, et, st⟩⟩
    · rintro σ Hc ⟨x3, x6, x7, x8, rfl, sc⟩
      have S3 := S2.trans sc
      refine ⟨_, rfl, rfl, rfl, m, gs, rs, rfl, hm.same S3, fit, fun x H3 nx mx s3 => ?_⟩
      have mxa := mx.at
      have S4 := S3.trans s3
      refine ⟨_, rfl, rfl, rfl, x, gs, _, rfl, mxa, lf, fun t H4 nt et s4 => ?_⟩
      rw [KN.needs_lean] at et
      refine ⟨by show 0 ≤ sizeLine; decide, fun e0 H5 n5 e5 s5 => ?_⟩
      refine ⟨natsD [], natsD [], dp_nats (SqL.of (s5 _ _ et)), dp_nats (l := []) (SqL.of e5), shaped_nats _, shaped_nats _, _, rfl, ?_⟩
      rw [show PyData.eqv (natsD []) (natsD []) = true from rfl]
      refine iteF ?_
      have mx5 := (mxa.same s4).same s5
      refine ⟨_, rfl, rfl, rfl, x, gs, _, rfl, mx5, lf, fun y H6 ny my s6 => ?_⟩
      rw [KN.lean_lean] at my
      refine ⟨_, rfl, ?_⟩
      refine q_ne (K := K) my.at lf (mx5.same s6) lf fun H7 s7 => ⟨_, rfl, ?_⟩
      simp only [and_self, decide_true, Bool.not_true]
      refine iteF ?_
      have mx7 := (mx5.same s6).same s7
      have S7 := (((S4.trans s4).trans s5).trans s6).trans s7
      have two : TwoM C H7 x m gs (KN.leanL rs) rs := ⟨mx7, hm.same S7, lf, fit, lean_low low, low⟩
      refine ⟨_, rfl, _, rfl, rfl, rfl, x, m, gs, _, _, rfl, two, fun _ H8 s8 => ?_, fun z => absurd (KN.lean_alike rs) z⟩
      refine ⟨true, true, rfl, rfl, true, rfl, ?_⟩
      have S8 := S7.trans s8
      have two2 : TwoM C H8 m x gs rs (KN.leanL rs) := ⟨hm.same S8, mx7.same s8, fit, lf, low, lean_low low⟩
      refine ⟨_, rfl, _, rfl, rfl, rfl, m, x, gs, _, _, rfl, two2, fun _ H9 s9 => ⟨rfl, ?_⟩, fun g' hp => ?_⟩
      · exact q H9 (S8.trans s9)
      · rw [partG_none.mpr (KN.lean_alike rs).symm] at hp
        cases hp
end
end KM

set_option Elab.async false
set_option linter.all false
set_option maxRecDepth 100000
set_option maxHeartbeats 4000000
namespace GL
open PySem PySem.Spec PyProof.Rows L2
/-! repr of None, of a dict of own objects as it stands -/
def rReprNon : List V → Hp → VK → Prop := fun xs H Q => xs = [.non] ∧ Q (.str (PyData.none).shown) H
theorem call_repr_non {X : Cx} (g : Clr X.A) (hu : X.A.units + 64 < cLine) : CallR X (.builtin "repr") rReprNon := by
  intro pins s σ H vs us Q I r h
  obtain ⟨rfl, q⟩ := h
  cases r with
  | cons r1 r2 =>
    cases r2
    have r1' : _ = Value.none := r1
    subst r1'
    refine call_repr_slot (T := "NoneType") (by omega) rfl PySem.F.slot_NoneType_repr.toG ?_
    refine wpAny_call_entry PySem.F.slot_NoneType_repr rfl PySem.F.entry_NoneType_repr ?_ (PySem.F.args_NoneType_repr_1 _)
    unfold Builtin.«NoneType.__repr__»
    wp_walk
    exact ⟨_, rfl, _, _, rfl, .str (PyData.none).shown, H, I.tok _, ⟨_, rfl⟩, q⟩
def rReprRU (C : Addr) (sp : Sp) : List V → Hp → VK → Prop := fun vs H Q => ∃ (a : Addr) (kvs : List (L2.Key × V)) (ts : List Str), vs = [.ref a] ∧ H a = some (.dK kvs) ∧ (∀ od, ShowsE C sp (upd H a (.frz od (.dK kvs))) kvs ts) ∧ (dictText ts).length ≤ sizeLine ∧ ∀ H', Same H H' → Q (.str (dictText ts)) H'
/-- the class shows itself so -/
structure HasR (P : Program) (w : World) (K : PySem.W.Frag) (mg : Str → Option Value) (base : Heap) (C : Addr) (k : Nat) (sp : Sp) : Prop where
  ex : ∃ f fd, FnOk P w K mg base CX0 k f fd ["self"] sp ∧ KBn K fd ["self"] 1 [] (fun us _ => us) (fun vs _ => vs) ∧ PySem.W.findIn K (.ref C) "__repr__" = some (some (.ref f)) ∧ PySem.W.isFn K (.ref f) = true
theorem call_repr_RU {X : Cx} {k : Nat} {C : Addr} {sp : Sp} (h : HasR X.prog X.w X.K X.mg X.base C k sp) (g : Clr X.A) (hr : Room (k + 3) X.A) : CallR X (.builtin "repr") (rReprRU C sp) := by
  intro pins s σ H vs us Q I r hq
  obtain ⟨f, fd, F, hb, hs, hf⟩ := h.ex
  obtain ⟨a, kvs, ts, rfl, ea, sh, hz, q⟩ := hq
  obtain ⟨od, I1⟩ := Inv.lock I ea trivial
  refine thn (call_repr_RD g hr F hb hs hf pins s σ (upd H a (.frz od (.dK kvs))) [.ref a] us (fun v H' => v = .str (dictText ts) ∧ Same (upd H a (.frz od (.dK kvs))) H') I1 r ⟨a, od, kvs, ts, rfl, upd_same, sh od, hz, fun H' s' => ⟨rfl, s'⟩⟩) ?_
  rintro v s1 ⟨x, H1, I2, r2, rfl, sm⟩
  exact ⟨_, upd H1 a (.dK kvs), Inv.unlock I2 (sm _ _ upd_same) (Inv.nofrz I ea trivial), r2, q _ (KM.same_unlock ea sm)⟩
theorem cr_repr3 {X : Cx} {k : Nat} {C : Addr} {sp : Sp} (h : HasR X.prog X.w X.K X.mg X.base C k sp) (g : Clr X.A) (hr : Room (k + 3) X.A) (hu : X.A.units + 64 < cLine) : CallR X (.builtin "repr") (fun vs H Q => rReprNon vs H Q ∨ rReprRU C sp vs H Q) := by
  intro pins s σ H vs us Q I r hq
  rcases hq with hq | hq
  · exact call_repr_non g hu pins s σ H vs us Q I r hq
  · exact call_repr_RU h g hr pins s σ H vs us Q I r hq
end GL
namespace GL
open PySem PySem.Spec PyProof.Rows L2
/-! rules that hand on the heap as a letter -/
section
variable {X : Cx}
def tClos (te : TE) : TE := fun σ H Q => ∃ Q0 : VK, te σ H Q0 ∧ ∀ x H1, Q0 x H1 → Q x H1
theorem pe_clos {e : Expr} {te : TE} (h : PE X e te) : PE X e (tClos te) := by
  constructor
  rintro pins s σ H Q I ⟨Q0, k, m⟩
  exact thn (h.run pins s σ H Q0 I k) fun v s' ⟨x, H1, I1, r, q⟩ => ⟨x, H1, I1, r, m _ _ q⟩
def tRevN (K : PySem.W.Frag) (te : TE) : TE := fun σ H Q => te σ H fun x H1 => ∃ (a : Addr) (xs : List V), x = .ref a ∧ SqL K H1 a xs ∧ NewK H1 (.lst xs.reverse) Q
theorem pe_revN {e : Expr} {te : TE} {k : Nat} {p1 p2 p3 pos : Pos} (h : PE X e te) : PE X (.Subscript e (.Slice none none (some (.UnaryOp .USub (.Constant (.int 1) k p1) p2)) p3) pos) (tRevN X.K te) := by
  constructor
  intro pins s σ H Q I q
  exact (pe_revL (pe_clos h)).run pins s σ H Q I ⟨_, q, fun x H1 ⟨a, xs, e, sq, k⟩ => ⟨a, xs, e, sq, k.go⟩⟩
def rRepL : R2 := fun x y H Q => ∃ (l : Addr) (k : Int) (xs : List V), x = .ref l ∧ y = .int k ∧ H l = some (.lst xs) ∧ -(2 ^ 63) ≤ k ∧ k < 2 ^ 63 ∧ xs.length * k.toNat ≤ sizeLine ∧ NewK H (.lst (List.replicate k.toNat xs).flatten) Q
theorem op_repL : OpR X (binaryOp .Mult) rRepL := by
  intro pins s σ H x y v u Q I rx ry ⟨l, k, xs, a, b, c, d, e, f, q⟩
  exact op_rep pins s σ H x y v u Q I rx ry ⟨l, k, xs, a, b, c, d, e, f, q.go⟩
def rListDL : List V → Hp → VK → Prop := fun xs H Q => ∃ (a : Addr) (kvs : List (L2.Key × V)), xs = [.ref a] ∧ Rd H a (.dK kvs) ∧ NewK H (.lst (kvs.map fun kv => kV kv.1)) Q
theorem call_listDL (hc : X.calm = true) : CallR X (.type "list") rListDL := by
  intro pins s σ H xs us Q I r ⟨a, kvs, e, rd, q⟩
  exact call_listD hc pins s σ H xs us Q I r ⟨a, kvs, e, rd, q.go⟩
end
end GL

set_option Elab.async false
set_option linter.all false
set_option maxRecDepth 100000
set_option maxHeartbeats 4000000
namespace KM
open PySem PySem.Spec PyProof.Rows L2 GL
/-! two Moves against the law's -/
abbrev sTr2 : Stmt := top 66
abbrev nT2 : List Str := ["_law_goods", "_law_rows", "_law_others_here", "_law_one", "_law_other", "_law_due", "_law_told", "_law_near", "_law_far", "_law_found", "_law_sides", "_law_good"]
theorem scT2 : FnScope nT2 ["_law_goods", "_law_rows", "_law_others_here"] (defScope sTr2) := ⟨rfl, rfl, rfl, by decide +kernel, rfl, by decide +kernel, by decide +kernel⟩
def spT2 : Sp := fun vs H Q _ => ∃ (G B S : Addr) (gs : List Str) (rs ss : List Row) (as bs : List Addr), vs = [.ref G, .ref B, .ref S] ∧ H G = some (.lst (gs.map V.str)) ∧ H B = some (.lst (as.map V.ref)) ∧ RowsIn H as rs ∧ H S = some (.lst (bs.map V.ref)) ∧ RowsIn H bs ss ∧ Fit gs rs ∧ Fit gs ss ∧ LowR rs ∧ LowR ss ∧ ∀ H', Same H H' → Q (.bl true) H'
def ratT (gs : List Str) (g : Pt → Int) : List Str := gs.map fun x => reprText x ++ (": " : Str) ++ reprR (g (some x))
theorem rat_shows {R : Addr} {H : Hp} {d : Addr} {o : HO} {g : Pt → Int} (hd : H d = some o) (no : ∀ C dx fs, o ≠ .ins C dx fs) (hb : ∀ p, (g p).natAbs ≤ 25000) {ad : Str → Addr} {u : HO} : ∀ {gs : List Str}, (∀ x ∈ gs, x ∈ names) → (∀ x ∈ gs, RatAt R H (ad x) (g (some x))) →
    ShowsE R (spRr R) (upd H d u) (gs.map fun x => ((Sum.inr x : L2.Key), V.ref (ad x))) (ratT gs g)
  | [], _, _ => .nil
  | x :: r, hn, h => by
    obtain ⟨dx, e⟩ := h x (List.mem_cons_self ..)
    have ne : ad x ≠ d := ne_of e hd (no _ _ _ ·.symm)
    have e' : (upd H d u) (ad x) = some (.ins R dx (rfl_ (g (some x)))) := by rw [upd_ne ne]; exact e
    have l5 := name_len x (hn x (List.mem_cons_self ..))
    refine .cons (by rw [sizeLine_eq]; omega) e' (fun H' Q s q => ⟨ad x, g (some x), rfl, ⟨dx, s _ _ e'⟩, by have := hb (some x); omega, q⟩) (rat_shows hd no hb (fun y hy => hn y (List.mem_cons_of_mem _ hy)) fun y hy => h y (List.mem_cons_of_mem _ hy))
theorem rat_len {gs : List Str} {g : Pt → Int} (G : GoodGs gs) (hb : ∀ p, (g p).natAbs ≤ 25000) : (dictText (ratT gs g)).length ≤ sizeLine := by
  have l := dictText_len_le (ratT gs g)
  have s := sum_le (fun t : Str => t.length) 30 (ratT gs g) fun t ht => by
    obtain ⟨x, hx, rfl⟩ := List.mem_map.mp ht
    have l5 := name_len x (G.sub x hx)
    obtain ⟨_, a2⟩ := int_small (i := g (some x)) (by have := hb (some x); omega)
    have l1 : ("Ratio(" : Str).length = 6 := rfl
    have l2 : (", " : Str).length = 2 := rfl
    have l3 : (")" : Str).length = 1 := rfl
    have l4 : (": " : Str).length = 2 := rfl
    have l6 : (toString (1 : Int) : Str).length = 1 := by decide +kernel
    unfold reprR
    simp only [Str.length_append]
    omega
  have n : (ratT gs g).length = gs.length := List.length_map ..
  have g2 := G.l2
  rw [sizeLine_eq]
  omega
theorem q_reprR {R : Addr} {H : Hp} {d : Addr} {gs : List Str} {g : Pt → Int} {Q : VK} (G : GoodGs gs) (hb : ∀ p, (g p).natAbs ≤ 25000) (rd : RatD R H d gs g) (q : ∀ H', Same H H' → Q (.str (dictText (ratT gs g))) H') : rReprNon [.ref d] H Q ∨ rReprRU R (spRr R) [.ref d] H Q := by
  obtain ⟨ad, e, rt⟩ := rd
  exact .inr ⟨d, _, _, rfl, e, fun od => rat_shows e (fun _ _ _ z => by cases z) hb G.sub rt, rat_len G hb, q⟩
theorem sh_bool (b : Bool) : Sh (.bool b) 5 0 := by cases b <;> exact ⟨rfl, rfl, by decide +kernel, Nat.le_refl _⟩
def blsD (l : List Bool) : PyData := .list (l.map PyData.bool)
theorem dp_blsL {K : PySem.W.Frag} {H : Hp} {L : Addr} {l : List Bool} (e : H L = some (.lst (l.map V.bl))) : Dp K H (.ref L) (blsD l) := .lst (SqL.of e) (dp_bls l)
theorem eqv_bls2 (a b c d : Bool) : PyData.eqv (blsD [a, b]) (blsD [c, d]) = decide (a = c ∧ b = d) := by
  cases a <;> cases b <;> cases c <;> cases d <;> rfl
theorem al_go {C : Addr} {vs : List V} {H : Hp} {Q : VK} {E : XK} {b : Bool} {rs ss : List Row} (hb : b = true ↔ KN.Alike rs ss) (h : ∃ l r gs, vs = [.ref l, .ref r] ∧ TwoM C H l r gs rs ss ∧ ∀ H', Same H H' → Q (.bl b) H') : spAl C vs H Q E := by
  obtain ⟨l, r, gs, e, two, q⟩ := h
  refine ⟨l, r, gs, rs, ss, e, two, fun al => ?_, fun al => ?_⟩
  · rw [← hb.mpr al]
    exact q
  · have z : b = false := by
      cases b with
      | true => exact absurd (hb.mp rfl) al
      | false => rfl
    rw [← z]
    exact q
theorem TwoM.symm {C : Addr} {H : Hp} {l r : Addr} {gs : List Str} {rs ss : List Row} (h : TwoM C H l r gs rs ss) : TwoM C H r l gs ss rs := ⟨h.r, h.l, h.fr, h.fl, h.lr, h.ll⟩
section
variable {P : Program} {w : World} {K : PySem.W.Frag} {mg : Str → Option Value} {base : Heap} {C D R : Addr}
theorem ok_tworight {f : Addr} {fd : FuncData} (F : Fun K "_law_two_right" "_law_two_right" sTr2 f fd) (T : Bi mg) (M : Mv P w K mg base C) (C2 : Rc K mg R)
    (JA : Has P w K mg base "_law_are_alike" 3 ["_law_goods", "_law_rows", "_law_others_here"] spJa) (AL : Has P w K mg base "are_alike" 6 ["one", "other"] (spAl C)) (ALK : HasK P w K mg base "are_alike" 6 ["one", "other"] (spAl C) ["other", "one"] (fun _ zs => zs.reverse))
    (PA0 : Has P w K mg base "parting" 5 ["one", "other"] (spPa C R)) (PAK : HasK P w K mg base "parting" 5 ["one", "other"] (spPa C R) ["other", "one"] (fun _ zs => zs.reverse)) (DK : Has P w K mg base "_law_does_keep" 6 ["_law_rows", "_law_changes"] (spDk R))
    (IM : Has P w K mg base "is_move" 7 ["moves", "value"] (spIsm C R)) (RR : HasR P w K mg base R 1 (spRr R)) :
    FnG P w K mg base CX0 8 f fd ["_law_goods", "_law_rows", "_law_others_here"] spT2 := by
  refine okG F scT2 (fun vs H Q E h => ?_) (fun cdv A out s H vs Q E g hr h => ?_)
  · obtain ⟨G, B, S, gs, rs, ss, as, bs, rfl, _⟩ := h
    rfl
  · obtain ⟨G, B, S, gs, rs, ss, as, bs, rfl, eG, eB, rows, eS, rows', fit, fit', low, low', q⟩ := h
    have hr7 : Room 7 _ := hr
    have hr6 : Room 6 _ := hr.mono (by decide)
    have hr5 : Room 5 _ := hr.mono (by decide)
    have hr4 : Room 4 _ := hr.mono (by decide)
    have hr3 : Room 3 _ := hr.mono (by decide)
    have hu := hr.units
    have ln := fit.n
    have ln' := fit'.n
    have l2 := fit.g.l2
    have szl := sizeLine_eq
    refine ⟨_, (pss_cons (ps_par (i := 3) (j := 4) (by rfl) scT2.nd rfl rfl (by decide) rfl rfl (pa_cons (pe_hasC M.mk2 g hr7 (by rfl) M.gM (pa_cons (pv 0) (pa_cons (pv 1) pa_nil)) pk_nil) (pa_cons (pe_hasC M.mk2 g hr7 (by rfl) M.gM (pa_cons (pe_revN (pv 0)) (pa_cons (pv 2) pa_nil)) pk_nil) pa_nil)) (by rfl))
      (pss_cons (ps_set (i := 5) scT2.nd rfl (.inl rfl) (pe_has JA g hr3 (by rfl) (pa_cons (pv 0) (pa_cons (pv 1) (pa_cons (pv 2) pa_nil)))))
      (pss_cons (ps_set (i := 6) scT2.nd rfl (.inl rfl) (pe_lstL (pa_cons (pe_has AL g hr6 (by rfl) (pa_cons (pv 3) (pa_cons (pv 4) pa_nil))) (pa_cons (pe_has AL g hr6 (by rfl) (pa_cons (pv 4) (pa_cons (pv 3) pa_nil))) (pa_cons (pe_hasK ALK g hr6 (by rfl) (pk_cons (pv 4) (pk_cons (pv 3) pk_nil))) pa_nil)))))
      (pss_cons (ps_if (pt_cmpR op_ne (pe_callB (call_repr_D g hu) (by rfl) T.repr (by decide +kernel) (pa_cons (pv 6) pa_nil)) (pe_callB (call_repr_D g hu) (by rfl) T.repr (by decide +kernel) (pa_cons (pe_op op_repL (pe_lstL (pa_cons (pv 5) pa_nil)) pe_int) pa_nil)) (nomark _)) (pss_one (ps_ret pe_bl)) pss_nil)
      (pss_cons (ps_for PassesOwn.never rfl (pi_list (pe_lstL (pa_cons (pe_tupL (pa_cons (pv 3) (pa_cons (pv 4) pa_nil))) (pa_cons (pe_tupL (pa_cons (pv 4) (pa_cons (pv 3) pa_nil))) pa_nil)))) (pg_tup rfl (pgs_cons (pg_name (i := 7) scT2.nd rfl (.inl rfl)) (pgs_cons (pg_name (i := 8) scT2.nd rfl (.inl rfl)) pgs_nil)))
      (pss_cons (ps_set (i := 9) scT2.nd rfl (.inr rfl) (pe_has PA0 g hr5 (by rfl) (pa_cons (pv 7) (pa_cons (pv 8) pa_nil))))
      (pss_cons (ps_if (PW.pt (pw_or (pt_cmpR op_ne (pe_cmpR op_isN (pv 9) pe_non (nomark _)) (pv 5) (nomark _)) (pw_or1 (pt_cmpR op_ne (pe_callB (cr_repr3 RR g hr4 hu) (by rfl) T.repr (by decide +kernel) (pa_cons (pe_hasK PAK g hr5 (by rfl) (pk_cons (pv 8) (pk_cons (pv 7) pk_nil))) pa_nil)) (pe_callB (cr_repr3 RR g hr4 hu) (by rfl) T.repr (by decide +kernel) (pa_cons (pv 9) pa_nil)) (nomark _))))) (pss_one (ps_ret pe_bl)) pss_nil)
      (pss_one (ps_if (pt_cmpR op_notN (pv 9) pe_non (nomark _)) (pss_cons (ps_set (i := 10) scT2.nd rfl (.inl rfl) (pe_lstL (pa_cons (pe_has DK g hr6 (by rfl) (pa_cons (pv 1) (pa_cons (pv 9) pa_nil))) (pa_cons (pe_has DK g hr6 (by rfl) (pa_cons (pv 2) (pa_cons (pv 9) pa_nil))) pa_nil))))
      (pss_cons (ps_if (PW.pt (pw_or (pt_cmpR (op_neD hu) (pe_callTy (call_listDL (by rfl)) (by rfl) T.list (by decide +kernel) (pa_cons (pv 9) pa_nil)) (pv 0) (nomark _)) (pw_or1 (pt_cmpR (op_neD hu) (pe_callB cr_sort2 (by rfl) T.sorted (by decide +kernel) (pa_cons (pv 10) pa_nil)) (pe_lstL (pa_cons pe_bl (pa_cons pe_bl pa_nil))) (nomark _))))) (pss_one (ps_ret pe_bl)) pss_nil)
      (pss_cons (ps_if (pt_not (pt_val (pe_callB (cr_all (by rfl)) (by rfl) T.all (by decide +kernel) (pa_cons (pe_lc (own := [("_law_good", 11)]) (g := gName 11) (tt := tYes) (te := tCB (rIsi K) (tCons (tDGet (tVar 9) (tVar 11)) (tCons (tC (.ref R)) tNil))) (by rfl) scT2.nd (pi_list (pv 0)) (blkOk_by (own := [("_law_good", 11)]) (N := nT2) (sc := defScope sTr2) (by decide +kernel)) (fun _ _ _ _ _ => by exact (pg_name (i := 11) scT2.nd rfl (.inl rfl))) (fun _ _ _ _ _ => pts_nil) (fun _ _ _ _ _ => by exact (pe_callB call_isi (by rfl) T.isinstance (by decide +kernel) (pa_cons (pe_dget (by have := hr.units; exact Nat.lt_of_le_of_lt (Nat.add_le_add_left (by decide) _) this) (pv 9) (pv 11) (fun _ _ => rfl)) (pa_cons (pe_glob (v := .ref R) (by rfl) C2.gR rfl) pa_nil))))) pa_nil)))) (pss_one (ps_ret pe_bl)) pss_nil)
      (pss_cons (ps_if (pt_cmpR (op_neD hu) (pe_lstL (pa_cons (pe_has IM g hr7 (by rfl) (pa_cons (pv 3) (pa_cons (pv 9) pa_nil))) (pa_cons (pe_has IM g hr7 (by rfl) (pa_cons (pv 4) (pa_cons (pv 9) pa_nil))) pa_nil))) (pv 10) (nomark _)) (pss_one (ps_ret pe_bl)) pss_nil)
      (pss_one (ps_expr (pe_dclear (pv 9)))))))) pss_nil)))))
      (pss_one (ps_ret pe_bl))))))), ?_⟩
    -- the two
    refine ⟨_, rfl, _, rfl, rfl, rfl, ?_⟩
    refine q_new (K := K) (.inl (SqL.of eG)) (.inl (SqL.of eB)) rows fit.g fit.r fit.n fun x hs H1 nx pm fx mx s1 => ?_
    have ehs : hs = gs := sorted_one pm fx.s fit.s
    subst ehs
    refine ⟨_, rfl, G, _, rfl, SqL.of (s1 _ _ eG), fun G2 H2 nG2 eG2 s2 => ?_⟩
    rw [← List.map_reverse] at eG2
    refine ⟨_, rfl, rfl, rfl, ?_⟩
    have S2 := s1.trans s2
    have pr : hs.reverse.Perm hs := List.reverse_perm hs
    refine q_new (K := K) (.inl (SqL.of eG2)) (.inl (SqL.of (S2 _ _ eS))) (rows_same rows' S2) (fit.g.perm pr) (fun r hr => (fit'.r r hr).of_sub fun y hy => pr.mem_iff.mpr hy) fit'.n fun y gs2 H3 ny pm2 fy my s3 => ?_
    have ehs2 : gs2 = hs := sorted_one (pm2.trans pr) fy.s fit.s
    subst ehs2
    refine ⟨_, _, rfl, ?_⟩
    have S3 := S2.trans s3
    have two : TwoM C H3 x y gs2 rs ss := ⟨(mx.at.same s2).same s3, my.at, fit, fit', low, low'⟩
    obtain ⟨b, hb⟩ : ∃ b : Bool, b = true ↔ KN.Alike rs ss := by
      by_cases al : KN.Alike rs ss
      · exact ⟨true, fun _ => al, fun _ => rfl⟩
      · exact ⟨false, fun z => (nomatch z), fun z => absurd z al⟩
    have hb' : b = true ↔ KN.Alike ss rs := hb.trans ⟨KN.Alike.symm, KN.Alike.symm⟩
    have bt : KN.Alike rs ss → b = true := hb.mpr
    have bf : ¬ KN.Alike rs ss → b = false := fun al => by
      cases b with
      | true => exact absurd (hb.mp rfl) al
      | false => rfl
    -- due
    have due : ∀ {Q' : VK}, (∀ H', Same H3 H' → Q' (.bl b) H') → spJa [.ref G, .ref B, .ref S] H3 Q' E0 := fun {Q'} k => ⟨G, B, S, gs2, rs, ss, as, bs, rfl, S3 _ _ eG, S3 _ _ eB, rows_same rows S3, S3 _ _ eS, rows_same rows' S3, l2, fit.r, fit'.r, by omega, by omega, fun al => bt al ▸ k, fun al => bf al ▸ k⟩
    refine ⟨_, rfl, _, rfl, _, rfl, rfl, rfl, due fun H4 s4 => ?_⟩
    refine ⟨_, rfl, _, rfl, rfl, rfl, al_go hb ⟨x, y, gs2, rfl, two.same s4, fun H5 s5 => ?_⟩⟩
    have s45 := s4.trans s5
    refine ⟨_, rfl, _, rfl, rfl, rfl, al_go hb' ⟨y, x, gs2, rfl, (two.same s45).symm, fun H6 s6 => ?_⟩⟩
    have s46 := s45.trans s6
    refine ⟨_, rfl, _, rfl, rfl, rfl, al_go hb ⟨x, y, gs2, rfl, two.same s46, fun H7 s7 => ?_⟩⟩
    refine ⟨by show 3 ≤ sizeLine; decide, fun Lt H8 n8 e8 s8 => ?_⟩
    have sb3 : Shows (blsD [b, b, b]) := (sh_list PyData.bool [b, b, b] (n := 5) (k := 0) fun z _ => sh_bool z).shows (by show 5 * 3 + 2 * 3 + 3 ≤ 16777216; omega) (by decide)
    refine ⟨_, rfl, Lt, _, rfl, dp_blsL (l := [b, b, b]) e8, sb3, ?_⟩
    refine ⟨_, rfl, by show 1 ≤ sizeLine; decide, fun L1 H9 n9 e9 s9 => ⟨L1, 3, _, rfl, rfl, e9, by decide, by decide, by show 1 * 3 ≤ sizeLine; omega, fun L3 H10 n10 e10 s10 => ?_⟩⟩
    have e10 : H10 L3 = some (.lst ([b, b, b].map V.bl)) := e10
    refine ⟨L3, _, rfl, dp_blsL e10, sb3, rfl, _, rfl, ?_⟩
    simp only [decide_true, Bool.not_true]
    refine iteF ?_
    have T10 : Same H3 H10 := (((s46.trans s7).trans s8).trans s9).trans s10
    have S10 := S3.trans T10
    -- for near, far in ..
    refine ⟨_, rfl, _, rfl, by show 2 ≤ sizeLine; decide, fun t1 H11 n11 e11 s11 => ?_⟩
    refine ⟨_, rfl, _, rfl, by show 2 ≤ sizeLine; decide, fun t2 H12 n12 e12 s12 => ?_⟩
    refine ⟨by show 2 ≤ sizeLine; decide, fun Lp H13 n13 e13 s13 => ⟨Lp, rfl, ⟨_, SqL.of e13⟩, ?_⟩⟩
    have et1 := s13 _ _ (s12 _ _ e11)
    have et2 := s13 _ _ e12
    have T13 : Same H3 H13 := ((T10.trans s11).trans s12).trans s13
    have S13 := S3.trans T13
    have two13 := two.same T13
    refine for_list (K := K) (a := Lp) (xs := [.ref t1, .ref t2]) (fun i σ' H' => ∃ (x7 x8 x9 x10 x11 : Option V), σ' = [some (.ref G), some (.ref B), some (.ref S), some (.ref x), some (.ref y), some (.bl b), some (.ref Lt), x7, x8, x9, x10, x11] ∧ Same H13 H') ?_ ?_ ?_ ?_
    · exact ⟨_, _, _, _, _, rfl, Same.refl' _⟩
    · rintro i σ' H' _ ⟨_, _, _, _, _, rfl, z⟩
      exact SqL.of (z _ _ e13)
    · rintro i v σ' Hc hi ⟨x7, x8, x9, x10, x11, rfl, sc⟩
      have Sc := S13.trans sc
      obtain ⟨t, nr, fr, r1, r2, rfl, et, twoc, hbc, hsd⟩ : ∃ t nr fr r1 r2, v = .ref t ∧ Hc t = some (.tup [.ref nr, .ref fr]) ∧ TwoM C Hc nr fr gs2 r1 r2 ∧ (b = true ↔ KN.Alike r1 r2) ∧ ∀ g, Sides g r1 r2 → Sides g rs ss := by
        match i, hi with
        | 0, hi =>
          have hi : V.ref t1 = v := by simpa using hi
          exact ⟨t1, x, y, rs, ss, hi.symm, sc _ _ et1, two13.same sc, hb, fun g h => h⟩
        | 1, hi =>
          have hi : V.ref t2 = v := by simpa using hi
          exact ⟨t2, y, x, ss, rs, hi.symm, sc _ _ et2, (two13.same sc).symm, hb', fun g h => h.symm⟩
        | i + 2, hi => simp at hi
      refine ⟨t, _, rfl, SqT.of et, rfl, _, _, rfl, _, _, rfl, rfl, ?_⟩
      refine ⟨_, rfl, _, rfl, rfl, rfl, nr, fr, gs2, r1, r2, rfl, twoc, fun hp H5 s5 => ?_, fun g' hp g0 gb sd d H5 nd rd s5 => ?_⟩
      · have eb : b = true := hbc.mpr (partG_none.mp hp)
        refine ⟨_, rfl, rfl, _, rfl, rfl, _, rfl, ?_⟩
        rw [show (!decide (V.bl (decide (V.non = V.non)) = V.bl b)) = false from by rw [eb]; rfl]
        refine iteF ?_
        refine ⟨_, rfl, _, rfl, rfl, rfl, nr, fr, gs2, r1, r2, rfl, twoc.same s5, fun _ H6 s6 => .inl ⟨rfl, ?_⟩, fun g2 hp2 => (by rw [hp] at hp2; cases hp2)⟩
        refine ⟨_, rfl, .inl ⟨rfl, rfl, _, rfl, ?_⟩⟩
        simp only [decide_true, Bool.not_true]
        refine iteF ?_
        refine ⟨_, rfl, rfl, _, rfl, iteF ?_⟩
        exact ⟨_, _, _, _, _, rfl, (sc.trans s5).trans s6⟩
      · have eb : b = false := by
          cases hq : b with
          | false => rfl
          | true => exact absurd (partG_none.mpr (hbc.mp hq)) (by rw [hp]; intro z; cases z)
        have G0 : GoodGs gs2 := fit.g
        refine ⟨_, rfl, rfl, _, rfl, rfl, _, rfl, ?_⟩
        rw [show (!decide (V.bl (decide (V.ref d = V.non)) = V.bl b)) = false from by rw [eb]; rfl]
        refine iteF ?_
        refine ⟨_, rfl, _, rfl, rfl, rfl, nr, fr, gs2, r1, r2, rfl, twoc.same s5, fun hp2 => (by rw [hp] at hp2; cases hp2), fun g2 hp2 _ _ _ d2 H6 nd2 rd2 s6 => ?_⟩
        have eg : g' = g2 := by
          rw [hp] at hp2
          exact Option.some.inj hp2
        subst eg
        refine q_reprR G0 gb rd2 fun H7 s7 => ?_
        refine ⟨_, rfl, q_reprR G0 gb ((rd.same s6).same s7) fun H8 s8 => ⟨rfl, _, rfl, ?_⟩⟩
        simp only [decide_true, Bool.not_true]
        refine iteF ?_
        refine ⟨_, rfl, rfl, _, rfl, iteT ?_⟩
        have s58 := (s6.trans s7).trans s8
        have rd8 := rd.same s58
        have c8 : Same Hc H8 := s5.trans s58
        have S8 := Sc.trans c8
        have lnr := fit.n
        refine ⟨_, rfl, _, rfl, rfl, rfl, B, d, gs2, rs, as, g', rfl, S8 _ _ eB, rows_same rows S8, l2, fit.g.nd, fit.r, by omega, rd8, g0, fun H9 s9 => ?_⟩
        have S9 := S8.trans s9
        refine ⟨_, rfl, _, rfl, rfl, rfl, S, d, gs2, ss, bs, g', rfl, S9 _ _ eS, rows_same rows' S9, l2, fit.g.nd, fit'.r, by omega, rd8.same s9, g0, fun H10 s10 => ?_⟩
        refine ⟨by show 2 ≤ sizeLine; decide, fun Ls H11 n11 e11 s11 => ?_⟩
        have s8b := (s9.trans s10).trans s11
        obtain ⟨k1, hk1⟩ : ∃ k, k = decide (Kept g' rs) := ⟨_, rfl⟩
        obtain ⟨k2, hk2⟩ : ∃ k, k = decide (Kept g' ss) := ⟨_, rfl⟩
        rw [← hk1, ← hk2] at e11
        have e11 : H11 Ls = some (.lst ([k1, k2].map V.bl)) := e11
        have one : (k1 && k2) = false ∧ (k1 || k2) = true := by
          rcases hsd g' sd with ⟨h1, h2⟩ | ⟨h1, h2⟩
          · rw [hk1, hk2, decide_eq_true h1, decide_eq_false h2]
            exact ⟨rfl, rfl⟩
          · rw [hk1, hk2, decide_eq_true h1, decide_eq_false h2]
            exact ⟨rfl, rfl⟩
        obtain ⟨ad, ed, rt⟩ := rd8.same s8b
        have S11 := S8.trans s8b
        refine ⟨_, rfl, d, _, rfl, .inl ed, fun Lk H12 n12 e12 s12 => ?_⟩
        have ek : (gs2.map fun x => ((Sum.inr x : L2.Key), V.ref (ad x))).map (fun kv => kV kv.1) = gs2.map V.str := by
          rw [List.map_map]
          rfl
        rw [ek] at e12
        have S12 := S11.trans s12
        refine ⟨_, rfl, gsD gs2, gsD gs2, dp_gs (SqL.of e12), dp_gs (SqL.of (S12 _ _ eG)), shaped_gs fit.g, shaped_gs fit.g, _, rfl, ?_⟩
        rw [eqv_gs, decide_eq_true rfl]
        refine iteF ?_
        refine ⟨_, rfl, Ls, k1, k2, rfl, SqL.of (s12 _ _ e11), fun Lq H14 n14 e14 s14 => ?_⟩
        refine ⟨by show 2 ≤ sizeLine; decide, fun Lr H15 n15 e15 s15 => ?_⟩
        have e14' : H15 Lq = some (.lst ([k1 && k2, k1 || k2].map V.bl)) := s15 _ _ e14
        have e15' : H15 Lr = some (.lst ([false, true].map V.bl)) := e15
        refine ⟨blsD [k1 && k2, k1 || k2], blsD [false, true], dp_blsL e14', dp_blsL e15', shaped_bls _, shaped_bls _, _, rfl, ?_⟩
        rw [eqv_bls2, decide_eq_true one]
        refine iteF ?_
        have t15 := (s12.trans s14).trans s15
        have S15 := S11.trans t15
        refine ⟨_, rfl, G, rfl, ⟨_, SqL.of (S15 _ _ eG)⟩, fun U nU => ?_⟩
        refine lc_it (walk_list (K := K) (a := G) (xs := gs2.map V.str)) (fun i H' => Same H15 H' ∧ H' U = some (.lst ((List.replicate i true).map V.bl))) ⟨same_new (Same.refl' _) nU, upd_same⟩ (fun i H' _ ⟨z, _⟩ => SqL.of (z _ _ (S15 _ _ eG))) ?_ ?_
        · rintro j z J1 J2 hj ⟨j1, f1⟩ ⟨rfl, hz⟩
          obtain ⟨u, hu', rfl⟩ := get_map hz
          have mu := List.mem_of_getElem? hu'
          have hj' : j < gs2.length := (List.getElem?_eq_some_iff.mp hu').1
          have J15 := t15.trans j1
          have edj := J15 _ _ ed
          obtain ⟨dy, ey⟩ := (rt u mu).same J15
          refine ⟨rfl, yes_go ?_⟩
          have gt := DGet.k (k := Sum.inr u) edj
          rw [strs_val mu] at gt
          refine ⟨_, rfl, _, rfl, d, .ref (ad u), rfl, gt, .ref (ad u), .ref R, .ref R, .ref R, true, rfl, .own R, .base (.ins ey C2.cl C2.hc C2.hn C2.ht C2.hm), kit_own, ?_⟩
          refine ⟨_, f1, by rw [List.length_map, List.length_replicate]; exact small1000 (by omega), same_but j1 But.refl.upd nU, ?_⟩
          rw [upd_same, List.replicate_succ', List.map_append]
          rfl
        · rintro J1 ⟨j1, f1⟩
          refine ⟨U, _, rfl, SqL.of f1, _, rfl, ?_⟩
          rw [show (List.replicate (gs2.map V.str).length true).all id = true from by simp]
          refine iteF ?_
          have J15 := t15.trans j1
          have rdj : RatD R J1 d gs2 g' := (rd8.same s8b).same J15
          have twoj : TwoM C J1 x y gs2 rs ss := two13.same ((sc.trans c8).trans (s8b.trans J15))
          refine ⟨_, rfl, _, rfl, rfl, rfl, x, d, gs2, rs, g', rfl, twoj.l, fit, rdj, g0, fun J2 j2 => ?_⟩
          refine ⟨_, rfl, _, rfl, rfl, rfl, y, d, gs2, ss, g', rfl, twoj.r.same j2, fit', rdj.same j2, g0, fun J3 j3 => ?_⟩
          refine ⟨by show 2 ≤ sizeLine; decide, fun Lm J4 n4 f4 j4 => ?_⟩
          have j14 := (j2.trans j3).trans j4
          rw [← hk1, ← hk2] at f4
          have f4 : J4 Lm = some (.lst ([k1, k2].map V.bl)) := f4
          have eLs : J4 Ls = some (.lst ([k1, k2].map V.bl)) := (J15.trans j14) _ _ e11
          refine ⟨_, rfl, blsD [k1, k2], blsD [k1, k2], dp_blsL f4, dp_blsL eLs, shaped_bls _, shaped_bls _, _, rfl, ?_⟩
          rw [eqv_bls2, decide_eq_true ⟨rfl, rfl⟩]
          refine iteF ?_
          have ed4 := (J15.trans j14) _ _ ed
          refine ⟨_, rfl, .inr (.inr (.inl ⟨rfl, .inl ⟨_, ed4⟩⟩)), d, _, rfl, rfl, ed4, ?_⟩
          exact ⟨_, _, _, _, _, rfl, same_but ((((sc.trans c8).trans s8b).trans J15).trans j14) But.refl.upd (sc.free nd)⟩
    · rintro σ' Hc ⟨x7, x8, x9, x10, x11, rfl, sc⟩
      exact q Hc (S13.trans sc)
end
end KM

set_option Elab.async false
set_option linter.all false
set_option maxRecDepth 100000
set_option maxHeartbeats 4000000
namespace KM
open PySem PySem.Spec PyProof.Rows L2 GL
/-! other conditions, drawn -/
abbrev sSo : Stmt := top 68
abbrev sOt : Stmt := top 67
/-- scene_of(pot, goods) -/
def spSo : Sp := fun vs H Q _ => ∃ (p G : Addr) (gs : List Str), vs = [.ref p, .ref G] ∧ PotAt H p ∧ H G = some (.lst (gs.map V.str)) ∧ GoodGs gs ∧
  ∀ (R : Addr) (as : List Addr) (rs : List Row) H', H R = none → H' R = some (.lst (as.map V.ref)) → RowsIn H' as rs → GoodRows gs rs → (∀ r ∈ rs, r.2.2.natAbs ≤ 9) → rs.length ≤ 4 → PotAt H' p → But p H H' → Q (.ref R) H'
theorem scSo : FnScope ["_law_pot_here", "_law_goods", "_law_found", "_law_points", "_law_turn", "_law_one", "_law_other"] ["_law_pot_here", "_law_goods"] (defScope sSo) := ⟨rfl, rfl, rfl, by decide +kernel, rfl, by decide +kernel, by decide +kernel⟩
theorem strs_ne {H : Hp} {a p : Addr} {gs : List Str} (e : H a = some (.lst (gs.map V.str))) (hp : PotAt H p) : a ≠ p := by
  obtain ⟨x, y, e', _⟩ := hp
  refine ne_of e e' fun q => ?_
  cases gs with
  | nil => cases q
  | cons b r => cases q
theorem refs_ne {H : Hp} {a p : Addr} {as : List Addr} (e : H a = some (.lst (as.map V.ref))) (hp : PotAt H p) : a ≠ p := by
  obtain ⟨x, y, e', _⟩ := hp
  refine ne_of e e' fun q => ?_
  cases as with
  | nil => cases q
  | cons b r => cases q
section
variable {P : Program} {w : World} {K : PySem.W.Frag} {mg : Str → Option Value} {base : Heap} {C D R : Addr}
theorem ok_sceneof {f : Addr} {fd : FuncData} (F : Fun K "_law_scene_of" "_law_scene_of" sSo f fd) (T : Bi mg)
    (D : Has P w K mg base "_law_draw" 1 ["_law_pot_here", "_law_many"] spDraw) (I : Has P w K mg base "_law_pick" 2 ["_law_pot_here", "_law_some"] (spPick K)) :
    FnG P w K mg base CX0 3 f fd ["_law_pot_here", "_law_goods"] spSo := by
  refine okG F scSo (fun vs H Q E h => ?_) (fun cdv A out s H vs Q E g hr h => ?_)
  · obtain ⟨p, G, gs, rfl, _⟩ := h
    rfl
  · obtain ⟨p, G, gs, rfl, hp, eG, GG, q⟩ := h
    have hr1 : Room 1 _ := hr.mono (by decide)
    have hu := hr.units
    have l2 := GG.l2
    have szl := sizeLine_eq
    have hGp := strs_ne eG hp
    refine ⟨_, (pss_cons (ps_par (i := 2) (j := 3) (by rfl) scSo.nd rfl rfl (by decide) rfl rfl (pa_cons (pe_lstL pa_nil) (pa_cons (pe_op op_catL (pv 1) (pe_lstL (pa_cons pe_non pa_nil))) pa_nil)) (by rfl))
      (pss_cons (ps_for PassesOwn.never rfl (pi_range1 (by rfl) T.range (pa_cons (pe_has D g hr1 (by rfl) (pa_cons (pv 0) (pa_cons pe_int pa_nil))) pa_nil)) (pg_name (i := 4) scSo.nd rfl (.inl rfl))
      (pss_cons (ps_par (i := 5) (j := 6) (by rfl) scSo.nd rfl rfl (by decide) rfl rfl (pa_cons (pe_has I g hr (by rfl) (pa_cons (pv 0) (pa_cons (pv 3) pa_nil))) (pa_cons (pe_has I g hr (by rfl) (pa_cons (pv 0) (pa_cons (pv 3) pa_nil))) pa_nil)) (by rfl))
      (pss_one (ps_if (pt_cmpR (op_neD hu) (pv 5) (pv 6) (nomark _)) (pss_one (ps_expr (pe_bm PySem.F.plainAttrs_list PySem.F.slot_list_append PySem.F.type_list_append mt_appL (pv 2) (pa_cons (pe_tupL (pa_cons (pv 5) (pa_cons (pv 6) (pa_cons (pe_op op_sub (pe_has D g hr1 (by rfl) (pa_cons (pv 0) (pa_cons pe_int pa_nil))) pe_int) pa_nil)))) pa_nil)))) pss_nil))))
      (pss_one (ps_ret (pv 2))))), ?_⟩
    refine ⟨by show 0 ≤ sizeLine; decide, fun R J1 m1 f1 u1 => ⟨_, rfl, by show 1 ≤ sizeLine; decide, fun b1 J2 m2 f2 u2 => ⟨G, b1, gs.map V.str, [.non], rfl, rfl, u2 _ _ (u1 _ _ eG), f2, by rw [List.length_map]; show gs.length + 1 ≤ sizeLine; omega, fun Pp J3 m3 f3 u3 => ⟨_, _, rfl, ?_⟩⟩⟩⟩
    have v1 : Same H J3 := (u1.trans u2).trans u3
    have hp3 : PotAt J3 p := pot_same hp v1
    have eR3 := u3 _ _ (u2 _ _ f1)
    have hPR : Pp ≠ R := (ne_of_none (u2 _ _ f1) m3).symm
    obtain ⟨x0, y0, hpp, _⟩ := id hp
    have hRp : R ≠ p := ne_some m1 hpp
    have hPp : Pp ≠ p := ne_some ((u1.trans u2).free m3) hpp
    have hGR : G ≠ R := ne_of_none eG m1
    rw [ptl_v] at f3
    refine ⟨_, rfl, rfl, rfl, p, 4, rfl, hp3, by decide, by decide, fun d H8 d0 d1 hp8 b8 => ⟨d, rfl, by omega, by omega, ?_⟩⟩
    have c3 : But p H H8 := (But.of v1).trans b8
    refine for_range (n := d.toNat) (fun i σ H' => ∃ (as : List Addr) (rs : List Row) (tv ov wv : Option V), σ = [some (.ref p), some (.ref G), some (.ref R), some (.ref Pp), tv, ov, wv] ∧
      H' Pp = some (.lst ((ptl gs).map oV)) ∧ H' R = some (.lst (as.map V.ref)) ∧ RowsIn H' as rs ∧ GoodRows gs rs ∧ (∀ r ∈ rs, r.2.2.natAbs ≤ 9) ∧ rs.length ≤ i ∧ PotAt H' p ∧ But p H H') ?_ ?_ ?_
    · exact ⟨[], [], _, _, _, rfl, b8 _ _ hPp f3, b8 _ _ hRp eR3, .nil, fun r h => (by cases h), fun r h => (by cases h), Nat.le_refl _, hp8, c3⟩
    · rintro i σ H' hi ⟨as, rs, tv, ov, wv, rfl, kP, kR, rows, good, low, len, pot, but⟩
      have lp : ((ptl gs).map oV).length = gs.length + 1 := by rw [List.length_map, ptl_len]
      refine ⟨_, rfl, _, rfl, rfl, rfl, p, Pp, _, rfl, pot, SqL.of kP, hPp, by omega, by omega, fun i1 x1 H1 hx1 hp1 b1 => ?_⟩
      refine ⟨_, rfl, _, rfl, rfl, rfl, p, Pp, _, rfl, hp1, SqL.of (b1 _ _ hPp kP), hPp, by omega, by omega, fun i2 x2 H2 hx2 hp2 b2 => ⟨_, _, rfl, ?_⟩⟩
      obtain ⟨o1, q1, rfl⟩ := get_map hx1
      obtain ⟨o2, q2, rfl⟩ := get_map hx2
      have w1 := pts_ok (ptl_mem.mp (List.mem_of_getElem? q1))
      have w2 := pts_ok (ptl_mem.mp (List.mem_of_getElem? q2))
      have b12 := b1.trans b2
      obtain ⟨z0, z1, hpp0, _⟩ := id pot
      have rows2 : RowsIn H2 as rs := rows_but rows b12 hpp0
      have kP2 := b12 _ _ hPp kP
      have kR2 := b12 _ _ hRp kR
      refine ⟨_, rfl, _, rfl, oD o1, oD o2, dp_o _, dp_o _, shaped_o GG _ w1, shaped_o GG _ w2, _, rfl, ?_⟩
      rw [eqv_o]
      refine ite2 (fun c => ?_) (fun c => ?_)
      · have hne : o1 ≠ o2 := by simpa using c
        refine ⟨_, rfl, .inl ⟨rfl, _, SqL.of kR2⟩, _, rfl, _, rfl, _, rfl, rfl, rfl, p, 6, rfl, hp2, by decide, by decide, fun d4 H4 e0 e1 hp4 b4 => ?_⟩
        refine ⟨_, _, rfl, rfl, by show 3 ≤ sizeLine; decide, fun t H7 nt et st => ?_⟩
        have b27 : But p H2 H7 := b4.trans (But.of st)
        obtain ⟨z2, z3, hpp2, _⟩ := id hp2
        have rows7 := rows_but rows2 b27 hpp2
        have kR7 := b27 _ _ hRp kR2
        have tR : t ≠ R := ne_of et kR7 (by intro q; cases q)
        have lenA : as.length = rs.length := Paired.length rows
        refine ⟨R, as.map V.ref, .ref t, rfl, rfl, kR7, by rw [List.length_map]; exact small1000 (by simp at hi; omega), fun H8' e8 c8 => ?_⟩
        refine ⟨as ++ [t], rs ++ [(o1, o2, d4 - 1)], _, _, _, rfl, c8 _ _ hPR (b27 _ _ hPp kP2), by rw [e8]; simp, ?_, ?_, ?_, by simp; omega, ?_, ?_⟩
        · exact Paired.snoc (rows_keep rows7 fun u xs e => c8 _ _ (ne_of e kR7 (by intro q; cases q)) e) (c8 _ _ tR et)
        · intro r hr
          rcases List.mem_append.mp hr with hr | hr
          · exact good r hr
          · rw [List.mem_singleton.mp hr]
            exact ⟨hne, w1, w2, by show (d4 - 1).natAbs ≤ 100; omega⟩
        · intro r hr
          rcases List.mem_append.mp hr with hr | hr
          · exact low r hr
          · rw [List.mem_singleton.mp hr]
            show (d4 - 1).natAbs ≤ 9
            omega
        · obtain ⟨a, b, e, z⟩ := pot_same hp4 st
          exact ⟨a, b, c8 _ _ hRp.symm e, z⟩
        · intro a o ha e
          have z := b27 _ _ ha (b12 _ _ ha (but _ _ ha e))
          exact c8 _ _ (ne_of_none e m1) z
      · exact ⟨as, rs, _, _, _, rfl, kP2, kR2, rows2, good, low, by omega, hp2, but.trans b12⟩
    · rintro σ H' ⟨as, rs, tv, ov, wv, rfl, kP, kR, rows, good, low, len, pot, but⟩
      exact ⟨_, rfl, q R as rs H' m1 kR rows good low (by omega) pot but⟩
end
end KM

set_option Elab.async false
set_option linter.all false
set_option maxRecDepth 100000
set_option maxHeartbeats 4000000
namespace KM
open PySem PySem.Spec PyProof.Rows L2 GL
/-- lists of conditions, none of them L -/
def Oth (H : Hp) (L : Addr) (gs : List Str) (fs : List Addr) : Prop := ∀ a ∈ fs, a ≠ L ∧ ∃ (bs : List Addr) (ss : List Row), H a = some (.lst (bs.map V.ref)) ∧ RowsIn H bs ss ∧ GoodRows gs ss ∧ LowR ss ∧ ss.length ≤ 24
theorem Oth.same {H H' : Hp} {L : Addr} {gs : List Str} {fs : List Addr} (h : Oth H L gs fs) (s : Same H H') : Oth H' L gs fs := fun a ha => by
  obtain ⟨n, bs, ss, e, r, g⟩ := h a ha
  exact ⟨n, bs, ss, s _ _ e, rows_same r s, g⟩
theorem Oth.but {H H' : Hp} {L p : Addr} {gs : List Str} {fs : List Addr} (h : Oth H L gs fs) (hp : PotAt H p) (b : But p H H') : Oth H' L gs fs := fun a ha => by
  obtain ⟨n, bs, ss, e, r, g⟩ := h a ha
  obtain ⟨x, y, ep, _⟩ := id hp
  exact ⟨n, bs, ss, b _ _ (refs_ne e hp) e, rows_but r b ep, g⟩
theorem Oth.put {H H' : Hp} {L a : Addr} {gs : List Str} {fs : List Addr} {zs : List V} (h : Oth H L gs fs) (eL : H L = some (.lst zs)) (b : But L H H') (hn : a ≠ L) (ha : ∃ (bs : List Addr) (ss : List Row), H a = some (.lst (bs.map V.ref)) ∧ RowsIn H bs ss ∧ GoodRows gs ss ∧ LowR ss ∧ ss.length ≤ 24) :
    Oth H' L gs (fs ++ [a]) := fun c hc => by
  rcases List.mem_append.mp hc with hc | hc
  · obtain ⟨n, bs, ss, e, r, g⟩ := h c hc
    exact ⟨n, bs, ss, b _ _ n e, rows_but r b eL, g⟩
  · rw [List.mem_singleton.mp hc]
    obtain ⟨bs, ss, e, r, g⟩ := ha
    exact ⟨hn, bs, ss, b _ _ hn e, rows_but r b eL, g⟩
def spOt : Sp := fun vs H Q _ => ∃ (p G B : Addr) (gs : List Str) (rs : List Row) (as : List Addr), vs = [.ref p, .ref G, .ref B] ∧ PotAt H p ∧ H G = some (.lst (gs.map V.str)) ∧ GoodGs gs ∧ H B = some (.lst (as.map V.ref)) ∧ RowsIn H as rs ∧ GoodRows gs rs ∧ (∀ r ∈ rs, r.2.2.natAbs ≤ 9) ∧ rs.length ≤ 7 ∧
  ∀ (L : Addr) (fs : List Addr) H', H L = none → H' L = some (.lst (fs.map V.ref)) → fs.length ≤ 20 → Oth H' L gs fs → PotAt H' p → But p H H' → Q (.ref L) H'
abbrev nOt : List Str := ["_law_pot_here", "_law_goods", "_law_rows", "_law_found", "_law_at", "_law_one", "_law_other", "_law_most", "_law_near", "_law_far", "_law_least"]
theorem scOt : FnScope nOt ["_law_pot_here", "_law_goods", "_law_rows"] (defScope sOt) := ⟨rfl, rfl, rfl, by decide +kernel, rfl, by decide +kernel, by decide +kernel⟩
theorem cut_nil (a b : Option Int) : cutV [] a b = [] := by
  unfold cutV
  simp
theorem cut_one (xs : List V) {j : Nat} (h : j ≤ 1) : ∃ j' : Nat, j' ≤ xs.length ∧ j' ≤ 1 ∧ cutV xs none (some ((j : Nat) : Int)) = xs.take j' := by
  by_cases k : j ≤ xs.length
  · exact ⟨j, k, h, cut_take k⟩
  · refine ⟨0, Nat.zero_le _, Nat.zero_le _, ?_⟩
    have e : xs = [] := List.length_eq_zero_iff.mp (by omega)
    rw [e, cut_nil]
    rfl
section
variable {P : Program} {w : World} {K : PySem.W.Frag} {mg : Str → Option Value} {base : Heap} {C D R : Addr}
theorem ok_others {f : Addr} {fd : FuncData} (F : Fun K "_law_others" "_law_others" sOt f fd) (T : Bi mg)
    (D : Has P w K mg base "_law_draw" 1 ["_law_pot_here", "_law_many"] spDraw) (SO : Has P w K mg base "_law_scene_of" 3 ["_law_pot_here", "_law_goods"] spSo) :
    FnG P w K mg base CX0 4 f fd ["_law_pot_here", "_law_goods", "_law_rows"] spOt := by
  refine okG F scOt (fun vs H Q E h => ?_) (fun cdv A out s H vs Q E g hr h => ?_)
  · obtain ⟨p, G, B, gs, rs, as, rfl, _⟩ := h
    rfl
  · obtain ⟨p, G, B, gs, rs, as, rfl, hp, eG, GG, eB, rows, good, low, len, q⟩ := h
    have hr1 : Room 1 _ := hr.mono (by decide)
    have hr3 : Room 3 _ := hr
    have hu := hr.units
    have szl := sizeLine_eq
    have la : (as.map V.ref).length = rs.length := by rw [List.length_map]; exact Paired.length rows
    have hGp := strs_ne eG hp
    have hBp := refs_ne eB hp
    obtain ⟨x0, y0, hpp, _⟩ := id hp
    have low60 : LowR rs := fun r hr => by have := low r hr; omega
    refine ⟨_, (pss_cons (ps_set (i := 3) scOt.nd rfl (.inl rfl) (pe_lstL (pa_cons (pe_revN (pv 2)) (pa_cons (pe_op op_catL (pv 2) (pe_slice slcL (pv 2) po_none (po_some pe_int))) (pa_cons (pe_has SO g hr3 (by rfl) (pa_cons (pv 0) (pa_cons (pv 1) pa_nil))) pa_nil)))))
      (pss_cons (ps_if (pt_cmpR (op_neD hu) (pv 2) (pe_lstL pa_nil) (nomark _)) (pss_cons (ps_set (i := 4) scOt.nd rfl (.inl rfl) (pe_has D g hr1 (by rfl) (pa_cons (pv 0) (pa_cons (pe_callB call_len_seq (by rfl) T.len PySem.boot_len (pa_cons (pv 2) pa_nil)) pa_nil))))
      (pss_cons (ps_asg (pe_ix ix_list (pv 2) (pv 4) (fun _ _ => rfl)) (pg_tup rfl (pgs_cons (pg_name (i := 5) scOt.nd rfl (.inl rfl)) (pgs_cons (pg_name (i := 6) scOt.nd rfl (.inl rfl)) (pgs_cons (pg_name (i := 7) scOt.nd rfl (.inl rfl)) pgs_nil)))))
      (pss_cons (ps_expr (pe_bm PySem.F.plainAttrs_list PySem.F.slot_list_append PySem.F.type_list_append mt_appL (pv 3) (pa_cons (pe_op op_catL (pe_slice slcL (pv 2) po_none (po_some (pv 4))) (pe_slice slcL (pv 2) (po_some (pe_op op_add (pv 4) pe_int)) po_none)) pa_nil)))
      (pss_cons (ps_expr (pe_bm PySem.F.plainAttrs_list PySem.F.slot_list_append PySem.F.type_list_append mt_appL (pv 3) (pa_cons (pe_op op_catL (pe_op op_catL (pe_slice slcL (pv 2) po_none (po_some (pv 4))) (pe_lstL (pa_cons (pe_tupL (pa_cons (pv 5) (pa_cons (pv 6) (pa_cons (pe_op op_sub (pe_op op_sub (pv 7) pe_int) (pe_has D g hr1 (by rfl) (pa_cons (pv 0) (pa_cons pe_int pa_nil)))) pa_nil)))) pa_nil))) (pe_slice slcL (pv 2) (po_some (pe_op op_add (pv 4) pe_int)) po_none)) pa_nil)))
      (pss_one (ps_for PassesOwn.never rfl (pi_list (pv 2)) (pg_tup rfl (pgs_cons (pg_name (i := 8) scOt.nd rfl (.inl rfl)) (pgs_cons (pg_name (i := 9) scOt.nd rfl (.inl rfl)) (pgs_cons (pg_name (i := 10) scOt.nd rfl (.inl rfl)) pgs_nil))))
      (pss_one (ps_if (PW.pt (pw_and (pt_cmpR (op_eqD hu) (pv 8) (pv 6) (nomark _)) (pw_and1 (pt_cmpR (op_neD hu) (pv 9) (pv 5) (nomark _))))) (pss_one (ps_expr (pe_bm PySem.F.plainAttrs_list PySem.F.slot_list_append PySem.F.type_list_append mt_appL (pv 3) (pa_cons (pe_op op_catL (pv 2) (pe_lstL (pa_cons (pe_tupL (pa_cons (pv 5) (pa_cons (pv 9) (pa_cons (pe_op op_add (pe_op op_add (pv 7) (pv 10)) (pe_has D g hr1 (by rfl) (pa_cons (pv 0) (pa_cons pe_int pa_nil)))) pa_nil)))) pa_nil))) pa_nil)))) pss_nil)))))))) pss_nil)
      (pss_one (ps_ret (pv 3))))), ?_⟩
    -- rows[::-1]
    refine ⟨_, rfl, B, _, rfl, SqL.of eB, fun L1 H1 n1 e1 s1 => ?_⟩
    have e1 : H1 L1 = some (.lst (as.reverse.map V.ref)) := by rw [e1, List.map_reverse]
    -- rows + rows[:1]
    obtain ⟨j', hj', hj1, hj⟩ := cut_one (as.map V.ref) (j := 1) (Nat.le_refl _)
    refine ⟨_, rfl, _, rfl, 1, rfl, B, _, rfl, SqL.of (s1 _ _ eB), fun A1 H2 n2 e2 s2 => ?_⟩
    rw [show (1 : Int) = ((1 : Nat) : Int) from rfl, hj] at e2
    refine ⟨B, A1, _, _, rfl, rfl, s2 _ _ (s1 _ _ eB), e2, by rw [List.length_take, la]; omega, fun L2 H3 n3 e3 s3 => ?_⟩
    have e3 : H3 L2 = some (.lst ((as ++ as.take j').map V.ref)) := by rw [e3]; simp [List.map_take]
    have S3 := (s1.trans s2).trans s3
    -- scene_of
    refine ⟨_, rfl, _, rfl, rfl, rfl, p, G, gs, rfl, pot_same hp S3, S3 _ _ eG, GG, fun L3 bs3 ss3 H4 n4 e4 rows4 good4 low4 len4 pot4 b4 => ?_⟩
    have pot3 := pot_same hp S3
    refine ⟨by show 3 ≤ sizeLine; decide, fun L H5 n5 e5 s5 => ?_⟩
    have e5 : H5 L = some (.lst ([L1, L2, L3].map V.ref)) := e5
    have b5 : But p H H5 := ((But.of S3).trans b4).trans (But.of s5)
    have pot5 := pot_same pot4 s5
    have nL : H L = none := back_but ((But.of S3).trans b4) n5 (by obtain ⟨_, _, z, _⟩ := id pot4; exact ne_some n5 z)
    have q1 := b4 _ _ (refs_ne (s3 _ _ (s2 _ _ e1)) pot3) (s3 _ _ (s2 _ _ e1))
    have q2 := b4 _ _ (refs_ne e3 pot3) e3
    have rows5 : RowsIn H5 as rs := rows_but rows b5 hpp
    have oth5 : Oth H5 L gs [L1, L2, L3] := by
      intro a ha
      rcases List.mem_cons.mp ha with rfl | ha
      · exact ⟨ne_of_none q1 n5, _, rs.reverse, s5 _ _ q1, rows_rev rows5, fun r hr => good r (List.mem_reverse.mp hr), fun r hr => low60 r (List.mem_reverse.mp hr), by rw [List.length_reverse]; omega⟩
      rcases List.mem_cons.mp ha with rfl | ha
      · refine ⟨ne_of_none q2 n5, _, rs ++ rs.take j', s5 _ _ q2, rows_app rows5 (rows_take j' rows5), fun r hr => ?_, fun r hr => ?_, ?_⟩
        · exact (List.mem_append.mp hr).elim (good r) fun z => good r (List.mem_of_mem_take z)
        · exact (List.mem_append.mp hr).elim (low60 r) fun z => low60 r (List.mem_of_mem_take z)
        · rw [List.length_append, List.length_take]
          omega
      · rw [List.mem_singleton.mp ha]
        exact ⟨ne_of_none e4 n5, _, ss3, s5 _ _ e4, rows_same rows4 s5, good4, fun r hr => by have := low4 r hr; omega, by omega⟩
    have hLp : L ≠ p := ne_some nL hpp
    -- if rows != []
    have eB5 := b5 _ _ hBp eB
    refine ⟨_, rfl, by show 0 ≤ sizeLine; decide, fun Z H6 n6 e6 s6 => ⟨rowsD rs, rowsD [], dp_rows (rows_same rows5 s6) (SqL.of (s6 _ _ eB5)), dp_rows (as := []) (rs := []) .nil (SqL.of e6), shaped_rows GG good, shaped_rows GG (fun r h => by cases h), _, rfl, ?_⟩⟩
    rw [eqv_rows]
    have b6 : But p H H6 := b5.trans (But.of s6)
    have pot6 := pot_same pot5 s6
    have oth6 := oth5.same s6
    have eL6 := s6 _ _ e5
    refine ite2 (fun c0 => ?_) (fun c0 => ⟨_, rfl, q L [L1, L2, L3] H6 nL eL6 (by show 3 ≤ 20; decide) oth6 pot6 b6⟩)
    have rne : rs ≠ [] := by
      intro z
      rw [z] at c0
      simp at c0
    have rpos : 0 < rs.length := List.length_pos_iff.mpr rne
    have eB6 := s6 _ _ eB5
    have hBL : B ≠ L := ne_of_none eB nL
    refine ⟨_, rfl, _, rfl, B, _, rfl, .inl (SqL.of eB6), rfl, rfl, p, _, rfl, pot6, by rw [la]; omega, by rw [la]; omega, fun d H7 d0 d1 pot7 b7 => ?_⟩
    rw [la] at d1
    obtain ⟨i, rfl⟩ := Int.eq_ofNat_of_zero_le d0
    have hi : i < rs.length := by omega
    have er : rs[i]? = some rs[i] := List.getElem?_eq_getElem hi
    generalize rs[i] = r at er
    have gr := good r (List.mem_of_getElem? er)
    have lr9 := low r (List.mem_of_getElem? er)
    have bb7 : But p H H7 := b6.trans b7
    have rows7 : RowsIn H7 as rs := rows_but rows bb7 hpp
    have eB7 := bb7 _ _ hBp eB
    have eL7 := b7 _ _ hLp eL6
    have oth7 := oth6.but pot6 b7
    obtain ⟨tr, etr, eat⟩ := pair_at rows7 er
    refine ⟨_, rfl, _, rfl, B, _, _, .ref tr, rfl, rfl, SqL.of eB7, atI_map etr, ?_⟩
    refine ⟨tr, _, rfl, SqT.of eat, rfl, _, _, rfl, _, _, rfl, _, _, rfl, rfl, ?_⟩
    -- found.append(rows[:at] + rows[at + 1:])
    refine ⟨_, rfl, .inl ⟨rfl, _, SqL.of eL7⟩, ?_⟩
    refine r_drop (i := i) rfl rfl eB7 rows7 hi (by omega) fun L4 bs4 H8 n8 e8 rows8 s8 => ?_
    refine ⟨L, _, .ref L4, rfl, rfl, s8 _ _ eL7, by show 3 < sizeLine; omega, fun H9 e9 b9 => ?_⟩
    have e9 : H9 L = some (.lst ([L1, L2, L3, L4].map V.ref)) := e9
    have wl := wo_le rs i
    have oth9 : Oth H9 L gs ([L1, L2, L3] ++ [L4]) := (oth7.same s8).put (s8 _ _ eL7) b9 (ne_some n8 eL7) ⟨bs4, KN.wo rs i, e8, rows8, wo_good good, fun x hx => low60 x (KN.mem_wo hx), by omega⟩
    have pL : p ≠ L := hLp.symm
    have pot9 : PotAt H9 p := by
      obtain ⟨u, v, e, z⟩ := pot_same pot7 s8
      exact ⟨u, v, b9 _ _ pL e, z⟩
    have bb9 : But p H H9 := fun a o ha e => b9 _ _ (ne_of_none e nL) (s8 _ _ (bb7 _ _ ha e))
    have rows9 : RowsIn H9 as rs := rows_but rows bb9 hpp
    have eB9 := bb9 _ _ hBp eB
    -- the patched one
    refine ⟨_, rfl, .inl ⟨rfl, _, SqL.of e9⟩, ?_⟩
    refine ⟨_, rfl, _, rfl, (i : Int), rfl, B, _, rfl, SqL.of eB9, fun A3 H10 n10 e10 s10 => ?_⟩
    rw [cut_take (by omega)] at e10
    refine ⟨_, rfl, _, rfl, _, rfl, _, _, rfl, rfl, _, rfl, rfl, rfl, p, 2, rfl, pot_same pot9 s10, by decide, by decide, fun d2 H11 f0 f1 pot11 b11 => ?_⟩
    have pot10 := pot_same pot9 s10
    refine ⟨_, _, rfl, rfl, by show 3 ≤ sizeLine; decide, fun t2 H12 n12 e12 s12 => ⟨by show 1 ≤ sizeLine; decide, fun L5 H13 n13 e13 s13 => ?_⟩⟩
    have b10' : But p H9 H13 := ((But.of s10).trans b11).trans (But.of (s12.trans s13))
    have e10a : H13 A3 = some (.lst ((as.map V.ref).take i)) := s13 _ _ (s12 _ _ (b11 _ _ (by rw [← List.map_take] at e10; exact refs_ne e10 pot10) e10))
    refine ⟨A3, L5, _, _, rfl, rfl, e10a, e13, by rw [List.length_take, la]; show _ + 1 ≤ sizeLine; omega, fun B1 H14 n14 e14 s14 => ?_⟩
    have bb14 : But p H H14 := (bb9.trans b10').trans (But.of s14)
    have eB14 := bb14 _ _ hBp eB
    refine ⟨_, rfl, _, rfl, _, _, rfl, rfl, (i : Int) + 1, rfl, B, _, rfl, SqL.of eB14, fun A2 H15 n15 e15 s15 => ?_⟩
    have ei : (i : Int) + 1 = ((i + 1 : Nat) : Int) := by omega
    rw [ei, cut_drop (by omega)] at e15
    refine ⟨B1, A2, _, _, rfl, rfl, s15 _ _ e14, e15, by simp only [List.length_append, List.length_take, List.length_drop, la, List.length_cons, List.length_nil]; omega, fun L6 H16 n16 e16 s16 => ?_⟩
    have bb16 : But p H H16 := bb14.trans (But.of (s15.trans s16))
    have b916 : But p H9 H16 := (b10'.trans (But.of s14)).trans (But.of (s15.trans s16))
    have rows16 : RowsIn H16 as rs := rows_but rows bb16 hpp
    have eL16 := b916 _ _ hLp e9
    have oth16 := oth9.but pot9 b916
    have t16 : RowAt H16 t2 (r.1, r.2.1, r.2.2 - 1 - d2) := s16 _ _ (s15 _ _ (s14 _ _ (s13 _ _ e12)))
    have e16' : H16 L6 = some (.lst ((as.take i ++ [t2] ++ as.drop (i + 1)).map V.ref)) := by rw [e16]; simp [List.map_take, List.map_drop]
    have pot16 := pot_same (pot_same pot11 (s12.trans s13)) (s14.trans (s15.trans s16))
    have nL6 : L6 ≠ L := ne_some n16 (s15 _ _ (s14 _ _ (b10' _ _ hLp e9)))
    refine ⟨L, _, .ref L6, rfl, rfl, eL16, by show 4 < sizeLine; omega, fun H17 e17 b17 => ?_⟩
    have e17 : H17 L = some (.lst ([L1, L2, L3, L4, L6].map V.ref)) := e17
    have oth17 : Oth H17 L gs (([L1, L2, L3] ++ [L4]) ++ [L6]) := oth16.put eL16 b17 nL6 ⟨_, rs.take i ++ [(r.1, r.2.1, r.2.2 - 1 - d2)] ++ rs.drop (i + 1), e16', rows_app (rows_app (rows_take i rows16) (.cons t16 .nil)) (rows_drop (i + 1) rows16), fun x hx => by
        rcases List.mem_append.mp hx with hx | hx
        · rcases List.mem_append.mp hx with hx | hx
          · exact good x (List.mem_of_mem_take hx)
          · rw [List.mem_singleton.mp hx]
            exact ⟨gr.ne, gr.one, gr.two, by show (r.2.2 - 1 - d2).natAbs ≤ 100; omega⟩
        · exact good x (List.mem_of_mem_drop hx), fun x hx => by
        rcases List.mem_append.mp hx with hx | hx
        · rcases List.mem_append.mp hx with hx | hx
          · exact low60 x (List.mem_of_mem_take hx)
          · rw [List.mem_singleton.mp hx]
            show (r.2.2 - 1 - d2).natAbs ≤ 60
            omega
        · exact low60 x (List.mem_of_mem_drop hx), by simp only [List.length_append, List.length_take, List.length_drop, List.length_cons, List.length_nil]; omega⟩
    have pot17 : PotAt H17 p := by
      obtain ⟨u, v, e, z⟩ := pot16
      exact ⟨u, v, b17 _ _ pL e, z⟩
    have bb17 : But p H H17 := fun a o ha e => b17 _ _ (ne_of_none e nL) (bb16 _ _ ha e)
    have eB17 := bb17 _ _ hBp eB
    refine ⟨_, rfl, B, rfl, ⟨_, SqL.of eB17⟩, ?_⟩
    refine for_list (K := K) (a := B) (xs := as.map V.ref) (fun j σ' H' => ∃ (x8 x9 x10 : Option V), σ' = [some (.ref p), some (.ref G), some (.ref B), some (.ref L), some (.int (i : Nat)), some (oV r.1), some (oV r.2.1), some (.int r.2.2), x8, x9, x10] ∧
      ∃ fs : List Addr, H' L = some (.lst (fs.map V.ref)) ∧ fs.length ≤ 5 + j ∧ Oth H' L gs fs ∧ PotAt H' p ∧ But p H H') ?_ ?_ ?_ ?_
    · exact ⟨_, _, _, rfl, _, e17, by show 5 ≤ 5 + 0; decide, oth17, pot17, bb17⟩
    · rintro j σ' H' _ ⟨_, _, _, rfl, fs, _, _, _, _, b'⟩
      exact SqL.of (b' _ _ hBp eB)
    · rintro j x σ' Hc hj ⟨_, _, _, rfl, fs, eL, lf, oth, pot, bb⟩
      obtain ⟨tc, c, rfl, ec, et⟩ := rows_at (rows_but rows bb hpp) hj
      have gc := good c (List.mem_of_getElem? ec)
      have lc9 := low c (List.mem_of_getElem? ec)
      have jlt : j < rs.length := (List.getElem?_eq_some_iff.mp ec).1
      refine ⟨tc, _, rfl, SqT.of et, rfl, _, _, rfl, _, _, rfl, _, _, rfl, rfl, ?_⟩
      refine ⟨_, rfl, _, rfl, oD c.1, oD r.2.1, dp_o _, dp_o _, shaped_o GG _ gc.one, shaped_o GG _ gr.two, _, rfl, ?_⟩
      have stay : ∃ (x8 x9 x10 : Option V), [some (.ref p), some (.ref G), some (.ref B), some (.ref L), some (.int (i : Nat)), some (oV r.1), some (oV r.2.1), some (.int r.2.2), some (oV c.1), some (oV c.2.1), some (.int c.2.2)] = [some (.ref p), some (.ref G), some (.ref B), some (.ref L), some (.int (i : Nat)), some (oV r.1), some (oV r.2.1), some (.int r.2.2), x8, x9, x10] ∧
          ∃ fs : List Addr, Hc L = some (.lst (fs.map V.ref)) ∧ fs.length ≤ 5 + (j + 1) ∧ Oth Hc L gs fs ∧ PotAt Hc p ∧ But p H Hc := ⟨_, _, _, rfl, fs, eL, by omega, oth, pot, bb⟩
      refine ite2 (fun _ => ?_) (fun _ => iteF stay)
      refine ⟨_, rfl, _, rfl, oD c.2.1, oD r.1, dp_o _, dp_o _, shaped_o GG _ gc.two, shaped_o GG _ gr.one, _, rfl, ?_⟩
      rw [eqv_o]
      refine ite2 (fun c2 => ?_) (fun _ => stay)
      have hne : c.2.1 ≠ r.1 := by simpa using c2
      have eBc := bb _ _ hBp eB
      refine ⟨_, rfl, .inl ⟨rfl, _, SqL.of eL⟩, _, rfl, _, rfl, _, rfl, _, rfl, _, rfl, _, _, rfl, rfl, _, rfl, rfl, rfl, p, 2, rfl, pot, by decide, by decide, fun d3 J1 k0 k1 potJ bJ => ?_⟩
      refine ⟨_, _, rfl, rfl, by show 3 ≤ sizeLine; decide, fun u J2 nu eu su => ⟨by show 1 ≤ sizeLine; decide, fun N1 J3 nn en sn => ?_⟩⟩
      have b3 : But p Hc J3 := bJ.trans (But.of (su.trans sn))
      refine ⟨B, N1, _, _, rfl, rfl, b3 _ _ hBp eBc, en, by rw [la]; show rs.length + 1 ≤ sizeLine; omega, fun N2 J4 n4' e4' s4' => ?_⟩
      have b4' : But p Hc J4 := b3.trans (But.of s4')
      have bb4 := bb.trans b4'
      have eL4 := b4' _ _ hLp eL
      have e4'' : J4 N2 = some (.lst ((as ++ [u]).map V.ref)) := by rw [e4']; simp
      have nN2 : N2 ≠ L := ne_some n4' (b3 _ _ hLp eL)
      have u4 : RowAt J4 u (r.1, c.2.1, r.2.2 + c.2.2 + d3) := s4' _ _ (sn _ _ eu)
      refine ⟨L, _, .ref N2, rfl, rfl, eL4, by rw [List.length_map]; exact small1000 (by omega), fun J5 e5' b5' => ?_⟩
      refine ⟨_, _, _, rfl, fs ++ [N2], by rw [e5']; simp, by rw [List.length_append]; show fs.length + 1 ≤ _; omega, (oth.but pot b4').put eL4 b5' nN2 ⟨_, rs ++ [(r.1, c.2.1, r.2.2 + c.2.2 + d3)], e4'', rows_app (rows_but rows bb4 hpp) (.cons u4 .nil), fun x hx => ?_, fun x hx => ?_, by simp; omega⟩, ?_, ?_⟩
      · rcases List.mem_append.mp hx with hx | hx
        · exact good x hx
        · rw [List.mem_singleton.mp hx]
          exact ⟨hne.symm, gr.one, gc.two, by show (r.2.2 + c.2.2 + d3).natAbs ≤ 100; omega⟩
      · rcases List.mem_append.mp hx with hx | hx
        · exact low60 x hx
        · rw [List.mem_singleton.mp hx]
          show (r.2.2 + c.2.2 + d3).natAbs ≤ 60
          omega
      · obtain ⟨a, b, e, z⟩ := pot_same (pot_same potJ (su.trans sn)) s4'
        exact ⟨a, b, b5' _ _ pL e, z⟩
      · exact fun a o ha e => b5' _ _ (ne_of_none e nL) (bb4 _ _ ha e)
    · rintro σ' H' ⟨_, _, _, rfl, fs, eL, lf, oth, pot, bb⟩
      rw [la] at lf
      exact ⟨_, rfl, q L fs H' nL eL (by omega) oth pot bb⟩
end
end KM

set_option Elab.async false
set_option linter.all false
set_option maxRecDepth 100000
set_option maxHeartbeats 4000000
namespace KM
open PySem PySem.Spec PyProof.Rows L2 GL
abbrev sRt : Stmt := top 69
/-- right(pot): True -/
def spRight : Sp := fun vs H Q _ => ∃ p : Addr, vs = [.ref p] ∧ PotAt H p ∧ ∀ H', But p H H' → Q (.bl true) H'
abbrev nRt : List Str := ["_law_pot_here", "_law_turn", "_law_goods", "_law_rows", "_law_moves", "_law_shown", "_law_others_here"]
theorem scRt : FnScope nRt ["_law_pot_here"] (defScope sRt) := ⟨rfl, rfl, rfl, by decide +kernel, rfl, by decide +kernel, by decide +kernel⟩
theorem cut_any {xs : List V} {i : Nat} : cutV xs none (some (i : Int)) = xs.take (min i xs.length) := by
  by_cases h : i ≤ xs.length
  · rw [cut_take h, Nat.min_eq_left h]
  · unfold cutV
    have e0 : HT.sIx xs.length 0 none = 0 := rfl
    have e1 : HT.sIx xs.length xs.length (some (i : Int)) = min i xs.length := by rw [HT.sIx_nat]
    rw [e0, e1]
    simp
theorem menu_sorted : ∀ gs ∈ menu, sortedS gs = true := by decide +kernel
section
variable {P : Program} {w : World} {K : PySem.W.Frag} {mg : Str → Option Value} {base : Heap} {C D R : Addr}
theorem ok_right {f : Addr} {fd : FuncData} (F : Fun K "_law_right" "_law_right" sRt f fd) (T : Bi mg) (M : Mv P w K mg base C)
    (SC : Has P w K mg base "_law_scene" 3 ["_law_pot_here", "_law_most"] spScene) (NR : Has P w K mg base "_law_needless_right" 9 ["_law_moves", "_law_goods", "_law_rows"] (spNr C))
    (TR : Has P w K mg base "_law_two_right" 8 ["_law_goods", "_law_rows", "_law_others_here"] spT2) (OT : Has P w K mg base "_law_others" 4 ["_law_pot_here", "_law_goods", "_law_rows"] spOt) :
    FnG P w K mg base CX0 10 f fd ["_law_pot_here"] spRight := by
  refine okG F scRt (fun vs H Q E h => ?_) (fun cdv A out s H vs Q E g hr h => ?_)
  · obtain ⟨p, rfl, _⟩ := h
    rfl
  · obtain ⟨p, rfl, hp, q⟩ := h
    have hr9 : Room 9 _ := hr
    have hr8 : Room 8 _ := hr.mono (by decide)
    have hr7 : Room 7 _ := hr.mono (by decide)
    have hr4 : Room 4 _ := hr.mono (by decide)
    have hr3 : Room 3 _ := hr.mono (by decide)
    have hr2 : Room 2 _ := hr.mono (by decide)
    have szl := sizeLine_eq
    refine ⟨_, (pss_cons (ps_for PassesOwn.never rfl (pi_range1 (by rfl) T.range (pa_cons pe_int pa_nil)) (pg_name (i := 1) scRt.nd rfl (.inl rfl))
      (pss_cons (ps_asg (pe_has SC g hr3 (by rfl) (pa_cons (pv 0) (pa_cons pe_int pa_nil))) (pg_tup rfl (pgs_cons (pg_name (i := 2) scRt.nd rfl (.inr rfl)) (pgs_cons (pg_name (i := 3) scRt.nd rfl (.inr rfl)) pgs_nil))))
      (pss_cons (ps_set (i := 4) scRt.nd rfl (.inl rfl) (pe_hasC M.mk2 g hr7 (by rfl) M.gM (pa_cons (pv 2) (pa_cons (pv 3) pa_nil)) pk_nil))
      (pss_cons (ps_set (i := 5) scRt.nd rfl (.inl rfl) (pe_callB (cr_repr M.repr g hr2) (by rfl) T.repr (by decide +kernel) (pa_cons (pv 4) pa_nil)))
      (pss_cons (ps_if (pt_not (pt_val (pe_has NR g hr9 (by rfl) (pa_cons (pv 4) (pa_cons (pv 2) (pa_cons (pv 3) pa_nil)))))) (pss_one (ps_ret pe_bl)) pss_nil)
      (pss_cons (ps_if (pt_not (pt_val (pe_callB (cr_all (by rfl)) (by rfl) T.all (by decide +kernel) (pa_cons (pe_lc (own := [("_law_others_here", 6)]) (g := gName 6) (tt := tYes) (te := tGo (["_law_goods", "_law_rows", "_law_others_here"] : List Str).length 0 spT2 (fun vs _ => vs) E0 (tCons (tVar 2) (tCons (tVar 3) (tCons (tVar 6) tNil))) tNil) (by rfl) scRt.nd (pi_list (pe_slice slcL (pe_has OT g hr4 (by rfl) (pa_cons (pv 0) (pa_cons (pv 2) (pa_cons (pv 3) pa_nil)))) po_none (po_some pe_int))) (blkOk_by (own := [("_law_others_here", 6)]) (N := nRt) (sc := defScope sRt) (by decide +kernel)) (fun _ _ _ _ _ => by exact (pg_name (i := 6) scRt.nd rfl (.inl rfl))) (fun _ _ _ _ _ => pts_nil) (fun _ _ _ _ _ => by exact (pe_has TR g hr8 (by rfl) (pa_cons (pv 2) (pa_cons (pv 3) (pa_cons (pv 6) pa_nil)))))) pa_nil)))) (pss_one (ps_ret pe_bl)) pss_nil)
      (pss_one (ps_if (pt_cmpR op_ne (pe_callB (cr_repr M.repr g hr2) (by rfl) T.repr (by decide +kernel) (pa_cons (pv 4) pa_nil)) (pv 5) (nomark _)) (pss_one (ps_ret pe_bl)) pss_nil))))))))
      (pss_one (ps_ret pe_bl))), ?_⟩
    refine ⟨3, rfl, by decide, by decide, ?_⟩
    refine for_range (n := 3) (fun i σ H' => ∃ (x1 x2 x3 x4 x5 x6 : Option V), σ = [some (.ref p), x1, x2, x3, x4, x5, x6] ∧ PotAt H' p ∧ But p H H') ?_ ?_ ?_
    · exact ⟨_, _, _, _, _, _, rfl, hp, But.refl⟩
    · rintro i σ H0 hi ⟨x1, x2, x3, x4, x5, x6, rfl, pot0, bb0⟩
      refine ⟨_, rfl, rfl, rfl, p, 7, rfl, pot0, by decide, fun gs rs G B t as H1 hg good low len nt nG nB GB et eG eB rows pot1 b1 => ?_⟩
      have GG := menu_good gs hg
      have fit : Fit gs rs := ⟨GG, menu_sorted gs hg, good, by omega⟩
      have lowR : LowR rs := fun r hr => by have := low r hr; omega
      obtain ⟨x7, y7, hpp0, _⟩ := id pot0
      have hGp : G ≠ p := ne_some nG hpp0
      have hBp : B ≠ p := ne_some nB hpp0
      refine ⟨t, _, rfl, SqT.of et, rfl, _, _, rfl, _, _, rfl, rfl, ?_⟩
      refine ⟨_, rfl, _, rfl, rfl, rfl, ?_⟩
      refine q_new (K := K) (.inl (SqL.of eG)) (.inl (SqL.of eB)) rows GG good (by omega) fun m hs H2 nm pm fm mx s2 => ?_
      have ehs : hs = gs := sorted_one pm fm.s fit.s
      subst ehs
      have mxa := mx.at
      obtain ⟨dx, fs, em, _⟩ := mxa.ins
      refine ⟨_, rfl, m, dx, fs, rfl, em, m, hs, rs, rfl, mxa, fit, fun H3 s3 => ⟨_, rfl, ?_⟩⟩
      have s23 := s2.trans s3
      refine ⟨_, rfl, _, rfl, _, rfl, rfl, rfl, m, G, B, hs, rs, as, rfl, mxa.same s3, fit, lowR, s23 _ _ eG, s23 _ _ eB, rows_same rows s23, fun H4 s4 => ⟨_, rfl, ?_⟩⟩
      refine iteF ?_
      have s24 := s23.trans s4
      have pot4 := pot_same pot1 s24
      -- others(pot, goods, rows)[:6]
      refine ⟨_, rfl, _, rfl, _, rfl, rfl, rfl, p, G, B, hs, rs, as, rfl, pot4, s24 _ _ eG, GG, s24 _ _ eB, rows_same rows s24, good, low, len, fun L fz H5 nL eL lf oth pot5 b5 => ?_⟩
      refine ⟨6, rfl, L, _, rfl, SqL.of eL, fun L6 H6 n6 e6 s6 => ?_⟩
      rw [show (6 : Int) = ((6 : Nat) : Int) from rfl, cut_any, ← List.map_take] at e6
      generalize hk : min 6 (fz.map V.ref).length = kk at e6
      have b14 : But p H1 H4 := But.of s24
      have b16 : But p H1 H6 := (b14.trans b5).trans (But.of s6)
      have eG6 := b16 _ _ hGp eG
      have eB6 := b16 _ _ hBp eB
      obtain ⟨x1', y1', hpp1, _⟩ := id pot1
      have rows6 : RowsIn H6 as rs := rows_but rows b16 hpp1
      have oth6 := oth.same s6
      refine ⟨L6, rfl, ⟨_, SqL.of e6⟩, fun U nU => ?_⟩
      refine lc_it (walk_list (K := K) (a := L6) (xs := (fz.take kk).map V.ref)) (fun j H' => Same H6 H' ∧ H' U = some (.lst ((List.replicate j true).map V.bl))) ⟨same_new (Same.refl' _) nU, upd_same⟩ (fun j H' _ ⟨z, _⟩ => SqL.of (z _ _ e6)) ?_ ?_
      · rintro j x J1 J2 hj ⟨j1, f1⟩ ⟨rfl, hx⟩
        obtain ⟨a, ha, rfl⟩ := get_map hx
        have ma : a ∈ fz := List.mem_of_mem_take (List.mem_of_getElem? ha)
        obtain ⟨_, bs, ss, e1, r1, g1, l1, n1⟩ := oth6 a ma
        have hj6 : j < 21 := by
          rw [List.length_map, List.length_take] at hj
          omega
        refine ⟨rfl, yes_go ?_⟩
        refine ⟨_, rfl, _, rfl, _, rfl, rfl, rfl, G, B, a, hs, rs, ss, as, bs, rfl, j1 _ _ eG6, j1 _ _ eB6, rows_same rows6 j1, j1 _ _ e1, rows_same r1 j1, fit, ⟨GG, fit.s, g1, n1⟩, lowR, l1, fun J3 j3 => ?_⟩
        refine ⟨_, j3 _ _ f1, by rw [List.length_map, List.length_replicate]; exact small1000 (by omega), same_but (j1.trans j3) But.refl.upd nU, ?_⟩
        rw [upd_same, List.replicate_succ', List.map_append]
        rfl
      · rintro J1 ⟨j1, f1⟩
        refine ⟨U, _, rfl, SqL.of f1, _, rfl, ?_⟩
        rw [show (List.replicate ((fz.take kk).map V.ref).length true).all id = true from by simp]
        refine iteF ?_
        have b2J : But p H2 J1 := (((But.of (s3.trans s4)).trans b5).trans (But.of s6)).trans (But.of j1)
        have pot2 := pot_same pot1 s2
        have mJ := mxa.but pot2 b2J
        obtain ⟨dz, fq, ez, _⟩ := mJ.ins
        refine ⟨_, rfl, m, dz, fq, rfl, ez, m, hs, rs, rfl, mJ, fit, fun J2 j2 => ⟨_, rfl, _, rfl, rfl, _, rfl, ?_⟩⟩
        simp only [decide_true, Bool.not_true]
        refine iteF ?_
        exact ⟨_, _, _, _, _, _, rfl, pot_same (pot_same (pot_same pot5 s6) j1) j2, (((bb0.trans b1).trans b16).trans (But.of j1)).trans (But.of j2)⟩
    · rintro σ H0 ⟨x1, x2, x3, x4, x5, x6, rfl, pot0, bb0⟩
      exact q H0 bb0
end
abbrev sLaw : Stmt := top 70
abbrev nLaw : List Str := ["_law_script", "_law_k"]
/-- pot(script, k): a new pot -/
def spPot (K : PySem.W.Frag) : Sp := fun vs H Q _ => ∃ (a : Addr) (k : Nat) (ns : List Int), vs = [.ref a, .int k] ∧ SqL K H a (ns.map V.int) ∧ k < 4 ∧ ∀ p H', H p = none → PotAt H' p → Same H H' → Q (.ref p) H'
def spLaw (K : PySem.W.Frag) : Sp := fun vs H Q _ => ∃ (a : Addr) (ns : List Int), vs = [.ref a] ∧ SqL K H a (ns.map V.int) ∧ ∀ H', Q (.bl true) H'
theorem at_int {ns : List Int} {k : Nat} (h : k < ns.length) : ∃ z, atI (ns.map V.int) (k : Int) = some (.int z) := by
  obtain ⟨v, e, q⟩ := atI_of (xs := ns.map V.int) (d := (k : Int)) (by omega) (by rw [List.length_map]; omega)
  rw [Int.toNat_natCast] at q
  obtain ⟨z, _, rfl⟩ := get_map q
  exact ⟨z, e⟩
section
variable {P : Program} {w : World} {K : PySem.W.Frag} {mg : Str → Option Value} {base : Heap} {C : Addr}
theorem scPot : FnScope ["_law_script", "_law_k", "_law_cell"] ["_law_script", "_law_k"] (defScope sPot) :=
  ⟨rfl, rfl, rfl, by decide +kernel, rfl, by decide +kernel, by decide +kernel⟩
theorem scLaw : FnScope nLaw ["_law_script"] (defScope sLaw) :=
  ⟨rfl, rfl, rfl, by decide +kernel, rfl, by decide +kernel, by decide +kernel⟩
theorem ok_pot {f : Addr} {fd : FuncData} (F : Fun K "_law_pot" "_law_pot" sPot f fd) (T : Bi mg) :
    FnG P w K mg base CX0 1 f fd ["_law_script", "_law_k"] (spPot K) := by
  refine okG F scPot (fun vs H Q E h => ?_) (fun cdv A out s H vs Q E g hr h => ?_)
  · obtain ⟨a, k, ns, rfl, _⟩ := h
    rfl
  · obtain ⟨a, k, ns, rfl, hS, hk, q⟩ := h
    refine ⟨_, (pss_cons (ps_set (i := 2) scPot.nd rfl (.inl rfl) (pe_op op_add (pe_op op_mul pe_int (pv 1)) pe_int))
      (pss_cons (ps_if (pt_cmpR op_lt (pv 1) (pe_callB call_len_seq (by rfl) T.len PySem.boot_len (pa_cons (pv 0) pa_nil)) (nomark _)) (pss_one (ps_set (i := 2) scPot.nd rfl (.inl rfl) (pe_callB call_abs (by rfl) T.abs (by decide +kernel) (pa_cons (pe_ix ix_list (pv 0) (pv 1) (fun _ _ => rfl)) pa_nil)))) pss_nil)
      (pss_one (ps_ret (pe_lstL (pa_cons (pe_callB (call_max2 (by rfl)) (by rfl) T.max (by decide +kernel) (pa_cons pe_int (pa_cons (pe_op op_sub (pv 2) (pe_op op_pow pe_int pe_int)) pa_nil))) (pa_cons (pe_op op_add (pe_op op_mod_l (pe_callTy call_int1 (by rfl) T.int (by decide +kernel) (pa_cons (pe_op op_mul (pe_callTy call_int1 (by rfl) T.int (by decide +kernel) (pa_cons (pe_op op_add (pe_op op_mod_l (pe_callTy call_int1 (by rfl) T.int (by decide +kernel) (pa_cons (pv 2) pa_nil)) pe_int) pe_int) pa_nil)) (pe_op op_pow (pe_op op_add (pe_op op_mul pe_int (pv 1)) pe_int) pe_int)) pa_nil)) pe_int) pe_int) pa_nil))))))), ?_⟩
    refine ⟨_, rfl, _, _, rfl, rfl, .inl ⟨by decide, by decide⟩, _, _, rfl, rfl, ?_⟩
    -- the last row
    have fin : ∀ c : Int, tRet (tLstL (tCons (tCB (fun xs H Q => ∃ i j, xs = [.int i, .int j] ∧ Q (.int (if j > i then j else i)) H) (tCons (tC (.int 0)) (tCons (tOp (rI0 fun i j => .int (i - j)) (tVar 2) (tOp (rI CPow fun i j => .int (i ^ j.toNat)) (tC (.int 10)) (tC (.int 18)))) tNil)))
        (tCons (tOp (rI0 fun i j => .int (i + j)) (tOp rModL (tCB (fun xs H Q => (∃ i, xs = [.int i] ∧ Q (.int i) H) ∨ ∃ k, xs = [.bl k] ∧ Q (.int (if k then 1 else 0)) H) (tCons (tOp (rI CMul fun i j => .int (i * j))
          (tCB (fun xs H Q => (∃ i, xs = [.int i] ∧ Q (.int i) H) ∨ ∃ k, xs = [.bl k] ∧ Q (.int (if k then 1 else 0)) H) (tCons (tOp (rI0 fun i j => .int (i + j)) (tOp rModL (tCB (fun xs H Q => (∃ i, xs = [.int i] ∧ Q (.int i) H) ∨ ∃ k, xs = [.bl k] ∧ Q (.int (if k then 1 else 0)) H) (tCons (tVar 2) tNil)) (tC (.int 2147483549))) (tC (.int 17))) tNil))
          (tOp (rI CPow fun i j => .int (i ^ j.toNat)) (tOp (rI0 fun i j => .int (i + j)) (tOp (rI CMul fun i j => .int (i * j)) (tC (.int 2)) (tVar 1)) (tC (.int 5))) (tC (.int 3)))) tNil)) (tC (.int 2147483477))) (tC (.int 1))) tNil)))
        { nx := fun _ H' => Q .non H', rt := Q } [some (.ref a), some (.int k), some (.int c)] H := fun c => by
      refine ⟨_, rfl, _, _, rfl, rfl, ⟨by decide, by decide, by decide⟩, _, _, rfl, rfl, _, _, rfl, ?_⟩
      refine ⟨_, rfl, .inl ⟨_, rfl, _, _, rfl, rfl, by decide, fun r r0 r1 _ => ⟨_, _, rfl, rfl, .inl ⟨_, rfl, ?_⟩⟩⟩⟩
      refine ⟨_, rfl, _, _, rfl, rfl, .inl ⟨by decide, by decide⟩, _, _, rfl, rfl, _, _, rfl, rfl, ⟨by decide, by decide, by omega⟩, ?_⟩
      refine ⟨_, _, rfl, rfl, .inl ⟨by omega, by omega⟩, .inl ⟨_, rfl, _, _, rfl, rfl, by decide, fun b b0 b1 _ => ⟨_, _, rfl, rfl, by show 2 ≤ sizeLine; decide, fun p H' n e s' => ?_⟩⟩⟩
      refine q p H' n ⟨_, _, e, ?_, by omega, by omega⟩ s'
      split <;> omega
    refine ⟨_, rfl, _, rfl, a, _, rfl, .inl hS, _, _, rfl, rfl, _, rfl, ?_⟩
    refine ite2 (fun c => ?_) (fun c => ?_)
    · have c1 : (k : Int) < (ns.map V.int).length := of_decide_eq_true c
      rw [List.length_map] at c1
      obtain ⟨z, hz⟩ := at_int (ns := ns) (k := k) (by omega)
      refine ⟨_, rfl, _, rfl, a, _, (k : Int), .int z, rfl, rfl, hS, hz, _, rfl, ?_⟩
      exact fin _
    · exact fin _
theorem ok_law {f : Addr} {fd : FuncData} (F : Fun K "law" "law" sLaw f fd) (T : Bi mg) (O : Has P w K mg base "_law_pot" 1 ["_law_script", "_law_k"] (spPot K))
    (R : Has P w K mg base "_law_right" 10 ["_law_pot_here"] spRight) : FnG P w K mg base CX0 11 f fd ["_law_script"] (spLaw K) := by
  refine okG F scLaw (fun vs H Q E h => ?_) (fun cdv A out s H vs Q E g hr h => ?_)
  · obtain ⟨a, ns, rfl, _⟩ := h
    rfl
  · obtain ⟨a, ns, rfl, hS, q⟩ := h
    have hr1 : Room 1 _ := hr.mono (by decide)
    refine ⟨_, (pss_one (ps_ret (pe_callB (cr_all (by rfl)) (by rfl) T.all (by decide +kernel) (pa_cons (pe_lc (own := [("_law_k", 1)]) (g := gName 1) (by rfl) scLaw.nd (pi_range1 (by rfl) T.range (pa_cons (pe_callB (call_max2 (by rfl)) (by rfl) T.max (by decide +kernel) (pa_cons pe_int (pa_cons (pe_callB (call_min2 (by rfl)) (by rfl) T.min (by decide +kernel) (pa_cons pe_int (pa_cons (pe_callB call_len_seq (by rfl) T.len PySem.boot_len (pa_cons (pv 0) pa_nil)) pa_nil))) pa_nil))) pa_nil)) (blkOk_by (own := [("_law_k", 1)]) (N := nLaw) (sc := defScope sLaw) (by decide +kernel)) (fun _ _ _ _ _ => pg_name (i := 1) scLaw.nd rfl (.inl rfl)) (fun _ _ _ _ _ => pts_nil) (fun _ _ _ _ _ => by exact (pe_has R g hr (by rfl) (pa_cons (pe_has O g hr1 (by rfl) (pa_cons (pv 0) (pa_cons (pv 1) pa_nil))) pa_nil)))) pa_nil)))), ?_⟩
    obtain ⟨N, hN, n0, n4⟩ : ∃ N : Int, (if (if ((ns.map V.int).length : Int) < 3 then ((ns.map V.int).length : Int) else 3) > 1 then (if ((ns.map V.int).length : Int) < 3 then ((ns.map V.int).length : Int) else 3) else 1) = N ∧ 0 ≤ N ∧ N ≤ 3 := by
      refine ⟨_, rfl, ?_, ?_⟩ <;> split <;> (try split) <;> omega
    refine ⟨_, rfl, a, _, rfl, .inl hS, 3, _, rfl, 1, _, rfl, N, congrArg (fun z => [V.int z]) hN, by omega, by omega, fun D5 nD5 => lc_range (lo := 0) (n := N.toNat)
      (fun i H' => Same H H' ∧ H' D5 = some (.lst ((List.replicate i true).map V.bl))) ⟨same_new (Same.refl' _) nD5, upd_same⟩ ?_ ?_⟩
    · rintro i H' hi ⟨sd, eD5⟩
      refine ⟨rfl, yes_go ?_⟩
      refine ⟨_, rfl, _, rfl, rfl, rfl, a, i, ns, congrArg (fun z => [V.ref a, V.int z]) (Int.zero_add _), sd.seq hS, by omega, fun p H2 np pot s2 => ⟨rfl, rfl, p, rfl, pot, fun H3 b3 => ?_⟩⟩
      have nDp : D5 ≠ p := ne_of_none eD5 np
      have far : ∀ c o, H c = some o → H3 c = some o := fun c o e => b3 _ _ (ne_of_none (sd _ _ e) np) (s2 _ _ (sd _ _ e))
      refine ⟨_, b3 _ _ nDp (s2 _ _ eD5), by rw [List.length_map, List.length_replicate]; exact small1000 (by omega), ?_, ?_⟩
      · intro c o e
        rw [upd_ne (ne_of_none e nD5)]
        exact far c o e
      · rw [upd_same, List.replicate_succ', List.map_append]
        rfl
    · rintro H25 ⟨S25, eD5⟩
      refine ⟨D5, List.replicate N.toNat true, rfl, SqL.of eD5, ?_⟩
      have z : (List.replicate N.toNat true).all id = true := by simp
      show Q (V.bl ((List.replicate N.toNat true).all id)) H25
      rw [z]
      exact q H25
end
end KM

set_option Elab.async false
set_option linter.all false
set_option maxRecDepth 100000
set_option maxHeartbeats 4000000
/-! The end: a promise that is kept where no guard is up is kept by the law's own call. -/
namespace GL
open PySem PySem.Spec PyProof.Rows L2
theorem clr0 : Clr callerA := rfl

section
variable {P : Program} {w : World} {K : PySem.W.Frag} {mg mb : Str → Option Value} {k : Nat} {f p : Addr} {fd : FuncData} {x : Str} {sp : Sp} {s0 : Shared} {us : List Value} {zs : List Int}
/-- what the end of the law's call tells -/
abbrev Told (s0 : Shared) : Result → Shared → Prop := fun r s2 =>
  r = .ok (.ret (.bool true)) ∧ OldK s0.heap s2.heap ∧ s2.os = s0.os ∧ AllBare s2.gens
/-- the call from a heap of letters: nothing but the script at p may stand in it -/
theorem call_from (H : Hp) (kin : K.In s0.heap) (nsG : s0.heap.Ns mainGlobals mg) (nsB : s0.heap.Ns builtinsNs mb)
    (boot : ∀ y : Str, y ≠ "__name__" → mb y = bootBuiltins y) (lim : s0.heap.NoLimit) (gens : s0.gens = #[])
    (hp : s0.heap.get? p = some { cls := .type "list", data := .seq us.toArray }) (room : Room k callerA)
    (F : ∀ base : Heap, K.In base → base.Ns mainGlobals mg → FnG P w K mg base CX0 k f fd [x] sp) (bnd : ∀ (s : Shared) (u : Value), BindsTo s fd ⟨[u], []⟩ [(x, u)])
    (only : Only H) (ok : HOk P w H s0.heap) (here : ∀ b, H b ≠ none → b = p) (off : H p ≠ none → K.lookup p = none)
    (hq : sp [.ref p] H (fun v _ => v = .bl true) fun _ _ _ => False) : codeAny (model P w) callerA (.call (.ref f) ⟨[.ref p], []⟩) (Told s0) s0 := by
  have keep : ∀ {b : Addr} {o : Obj}, s0.heap.get? b = some o → H b = none → (hidT s0.heap H).get? b = some o := fun e n => hidT_get e n
  have clean : ∀ {b : Addr} {o : Obj}, s0.heap.get? b = some o → (b = p → H p = none) → H b = none := fun {b o} _ h => by
    by_cases q : H b = none
    · exact q
    · have z := here b q
      rw [z] at q ⊢
      exact h z
  have nsH : ∀ {b : Addr} {m : Str → Option Value}, s0.heap.Ns b m → (hidT s0.heap H).Ns b m := by
    rintro b m ⟨o, es, ep, e, d, r⟩
    refine ⟨o, es, ep, keep e (clean e fun z => ?_), d, r⟩
    rw [z, hp] at e
    cases e
    cases (show Data.seq us.toArray _ = Data.dict es ep from d)
  have kinH : K.In (hidT s0.heap H) := fun b o e => keep (kin b o e) (clean (kin b o e) fun z => by
    by_cases q : H p = none
    · exact q
    · rw [z, off q] at e
      cases e)
  obtain ⟨ml, l1, l2⟩ := lim
  have md : Mod K mg (hidT s0.heap H) := ⟨kinH, nsH nsG, ⟨mb, nsH nsB, boot⟩, ml, nsH l1, l2⟩
  have ev : Env0 P w K mg (hidT s0.heap H) callerA [] s0 H :=
    { frames := rfl, mod := md, bs := fun b o e => of_hidT e, bsz := Nat.le_of_eq (hidT_size _ _), funs := trivial, frf := fun b hb => (List.not_mem_nil (show b ∈ ([] : List Addr) from hb)).elim, hok := ok, bare := .of_eq gens }
  have run := (F _ kinH (nsH nsG)).go callerA [] s0 H ⟨[.ref p], []⟩ [.ref p] [.ref p] _ _ clr0 room ev (bnd s0 (.ref p)) (.cons rfl .nil) hq
  refine codeAny_mono run ?_
  rintro (e | fl) s2 h
  · exact False.elim h
  · cases fl with
    | ret u =>
      obtain ⟨v, H2, os, bare, un, ok2, rel, tv⟩ := h
      obtain rfl : v = .bl true := tv
      obtain rfl : u = Value.bool true := rel
      refine ⟨rfl, OldK.of_keep fun b o e => ?_, os, bare⟩
      by_cases q : H b = none
      · exact un.keep b o e q (fun z => List.not_mem_nil (show b ∈ ([] : List Addr) from z)) (by simp)
      · rcases only b with z | ⟨ob, xs, z⟩
        · exact absurd z q
        · obtain ⟨e1, _⟩ := ok b _ z
          obtain ⟨e2, _⟩ := ok2 b _ (un.frzs b ob _ z)
          rw [← e, e1]
          exact e2
    | next => exact False.elim h
    | brk => exact False.elim h
    | cont => exact False.elim h
theorem call_law (kin : K.In s0.heap) (nsG : s0.heap.Ns mainGlobals mg) (nsB : s0.heap.Ns builtinsNs mb)
    (boot : ∀ y : Str, y ≠ "__name__" → mb y = bootBuiltins y) (lim : s0.heap.NoLimit) (gens : s0.gens = #[])
    (hp : s0.heap.get? p = some { cls := .type "list", data := .seq us.toArray }) (whole : IntsAre us zs) (len : zs.length ≤ sizeLine) (room : Room k callerA)
    (F : ∀ base : Heap, K.In base → base.Ns mainGlobals mg → FnG P w K mg base CX0 k f fd [x] sp) (bnd : ∀ (s : Shared) (u : Value), BindsTo s fd ⟨[u], []⟩ [(x, u)])
    (hq : ∀ H : Hp, Only H → SqL K H p (zs.map V.int) → sp [.ref p] H (fun v _ => v = .bl true) fun _ _ _ => False) : codeAny (model P w) callerA (.call (.ref f) ⟨[.ref p], []⟩) (Told s0) s0 := by
  have rel := vals_ints whole
  have lenU := whole.length
  cases own : K.lookup p with
  | none =>
    let o0 : Obj := { cls := .type "list", data := .seq us.toArray }
    let H0 : Hp := fun b => if b = p then some (.frz o0 (.lst (zs.map V.int))) else none
    have at0 : H0 p = some (.frz o0 (.lst (zs.map V.int))) := if_pos rfl
    have no0 : ∀ {b : Addr}, b ≠ p → H0 b = none := fun n => if_neg n
    have back : ∀ {b : Addr} {o : HO}, H0 b = some o → b = p ∧ o = .frz o0 (.lst (zs.map V.int)) := fun {b o} z => by
      by_cases q : b = p
      · subst q
        exact ⟨rfl, (Option.some.inj (at0.symm.trans z)).symm⟩
      · rw [no0 q] at z
        cases z
    have on0 : Only H0 := fun b => by
      by_cases q : b = p
      · subst q
        exact .inr ⟨_, _, at0⟩
      · exact .inl (no0 q)
    refine call_from H0 kin nsG nsB boot lim gens hp room F bnd on0 (fun b o z => ?_) (fun b z => ?_) (fun _ => own) (hq H0 on0 (.inl (.inr ⟨o0, at0⟩)))
    · obtain ⟨rfl, rfl⟩ := back z
      exact ⟨hp, by rw [List.length_map]; exact len, us, _, rel, hp⟩
    · by_cases q : b = p
      · exact q
      · exact absurd (no0 q) z
  | some o =>
    obtain rfl : o = _ := Option.some.inj ((kin p o own).symm.trans hp)
    have on1 : Only fun _ => none := fun _ => .inl rfl
    refine call_from (fun _ => none) kin nsG nsB boot lim gens hp room F bnd on1 (fun b o z => by cases (show (none : Option HO) = some o from z)) (fun b z => absurd rfl z) (fun z => absurd rfl z) (hq _ on1 ?_)
    exact .inr ⟨_, us.toArray, _, own, rfl, rfl, rfl, by rw [List.size_toArray, lenU]; exact len, by simpa using rel⟩
end
theorem walk_g {l : PySem.W.OpenLaw} {n k : Nat} {q : Program} {loose : List Str} {XP : (Str → Option Value) → Heap → Prop} {YP : World → Heap → Prop} {d : DefRec} {K : Params → PySem.W.Frag} {x : Str} {sp : PySem.W.Frag → Sp}
    (most : l.most = some n) (small : n ≤ sizeLine) (plain : d.params.defaults = []) (room : Room k callerA) (kin : ∀ (w : World) (h : Heap), YP w h → (K w.params).In h)
    (F : ∀ (w : World) (mg : Str → Option Value) (f : Addr) (h : Heap), (K w.params).In h → h.Ns mainGlobals mg → mg d.name = some (.ref f) →
      ∃ fd : FuncData, (∀ (s : Shared) (u : Value), BindsTo s fd ⟨[u], []⟩ [(x, u)]) ∧ ∀ base : Heap, (K w.params).In base → base.Ns mainGlobals mg → FnG l.prog w (K w.params) mg base CX0 k f fd [x] (sp (K w.params)))
    (hq : ∀ (K : PySem.W.Frag) (H : Hp) (a : Addr) (zs : List Int), zs.length ≤ n → SqL K H a (zs.map V.int) → sp K [.ref a] H (fun v _ => v = .bl true) fun _ _ _ => False) :
    PySem.W.WalkO q loose XP YP l.row.toRowW d [] (fun f vs => PySem.call f vs) := by
  refine Att.attach_call most plain ?_
  intro w s₀ s₁ mg mb f o pm cd doc a us zs G Y _ _ _ hf ha whole len gens
  obtain ⟨fd, b, hF⟩ := F w mg f _ (kin w _ Y) G.T.g hf
  exact call_law (kin w _ Y) G.T.g G.T.b G.T.builtins G.T.nolimit gens ha whole (Nat.le_trans len small) room hF b fun H _ hS => hq _ H a zs len hS
end GL

set_option Elab.async false
set_option linter.all false
set_option maxRecDepth 100000
set_option maxHeartbeats 4000000
namespace GL
open PySem PySem.Spec PyProof.Rows L2
/-! what the top has left, a def as one fact -/
structure Gf (K : PySem.W.Frag) (mg : Str → Option Value) (x : Str) (st : Stmt) : Prop where
  ex : ∃ f fd, mg x = some (.ref f) ∧ Fun K x x st f fd
structure Mf (K : PySem.W.Frag) (C : Addr) (m qual : Str) (st : Stmt) : Prop where
  ex : ∃ f fd, Meth K C m f ∧ Fun K m qual st f fd
section
variable {K : PySem.W.Frag} {mg : Str → Option Value} {h : Heap} {x m qual : Str} {st : Stmt} {f C : Addr} {oc kV doc pm cd ct : Value} {od an : Option Addr} {osl : Array (Option Value)}
theorem gf_mk (X : K.In h) (G : h.Ns mainGlobals mg) (a : PySem.W.nsIn K mainGlobals x = some (some (.ref f)))
    (l : K.lookup f = some ⟨oc, od, .func (PySem.W.fnOf x x (defArgs st) (defBody st) (defScope st) .none kV doc pm an cd ct), osl⟩) (c : PySem.W.codeIn K cd x = true) (k : PySem.W.keepIn K (.ref f) = true) : Gf K mg x st :=
  ⟨f, _, PySem.W.mg_of X G a, fun_mk l c k⟩
theorem mf_mk (a : PySem.W.findIn K (.ref C) m = some (some (.ref f))) (i : PySem.W.isFn K (.ref f) = true)
    (l : K.lookup f = some ⟨oc, od, .func (PySem.W.fnOf m qual (defArgs st) (defBody st) (defScope st) .none kV doc pm an cd ct), osl⟩) (c : PySem.W.codeIn K cd qual = true) (k : PySem.W.keepIn K (.ref f) = true) : Mf K C m qual st :=
  ⟨f, _, ⟨a, i, k⟩, fun_mk l c k⟩
end
section
variable {P : Program} {w : World} {K : PySem.W.Frag} {mg : Str → Option Value} {base : Heap} {k : Nat} {x m qual : Str} {ps : List Str} {sp : Sp} {st : Stmt} {C : Addr}
abbrev Binds0 (x qual : Str) (st : Stmt) (ps : List Str) : Prop := ∀ (kV doc pm : Value) (an : Option Addr) (cdv ct : Value) (us : List Value), us.length = ps.length →
  bindArgs (PySem.W.fnOf x qual (defArgs st) (defBody st) (defScope st) .none kV doc pm an cdv ct) ⟨us, []⟩ = pure (ps.zip us)
theorem Gf.has (g : Gf K mg x st) (b : Binds0 x x st ps) (F : ∀ f fd, Fun K x x st f fd → FnG P w K mg base CX0 k f fd ps sp) : Has P w K mg base x k ps sp := by
  obtain ⟨f, fd, a, u⟩ := g.ex
  exact ⟨f, fd, a, u.kp, F f fd u, kbPlace u b⟩
theorem Mf.has (g : Mf K C m qual st) (b : Binds0 m qual st ps) (F : ∀ f fd, Fun K m qual st f fd → FnG P w K mg base CX0 k f fd ps sp) : HasM P w K mg base C m k ps sp := by
  obtain ⟨f, fd, a, u⟩ := g.ex
  exact ⟨f, fd, a, F f fd u, kbPlace u b⟩
/-- a def with defaults: what a call binds -/
theorem kbDef {params : Arguments} {body : List Stmt} {scope : Scope} {dvs : List V} {f : Addr} {fd : FuncData} (F : FunD K x qual params body scope dvs [] f fd) (n : Nat) (ks : List Str) (g : {α : Type} → List α → List α → List α → List α) (hd : dvs ≠ [])
    (hrel : ∀ {vs ds zs : List V} {us its ws : List Value}, Vals vs us → Vals ds its → Vals zs ws → Vals (g vs ds zs) (g us its ws))
    (b : ∀ (T : Addr) (kV doc pm : Value) (an : Option Addr) (cdv ct : Value) (us its ws : List Value), us.length = n → its.length = dvs.length → ws.length = ks.length →
      ∃ r, bindArgs (PySem.W.fnOf x qual params body scope (.ref T) kV doc pm an cdv ct) ⟨us, ks.zip ws⟩ = seqItems? (.ref T) >>= r ∧ r (some its.toArray) = pure (ps.zip (g us its ws))) :
    ∃ g1, KBn K fd ps n ks g1 (fun vs zs => g vs dvs zs) := by
  obtain ⟨oc, od, dV, kV, doc, pm, an, cdv, ct, osl, rfl, lk, hcd, hD, _⟩ := F.ex
  rcases hD with ⟨e, _⟩ | ⟨_, T, o, its, q, rfl, lT, oT, rT⟩
  · exact absurd e hd
  · refine ⟨fun us ws => g us its ws, fun s us ws X l1 l2 => ?_, fun r1 r2 => hrel r1 rT r2⟩
    obtain ⟨r, e1, e2⟩ := b T kV doc pm an cdv ct us its ws l1 rT.length.symm l2
    refine BindsTo.of_looks fun M => ?_
    rw [e1]
    exact looks_items X lT oT (.of_pure e2)
end
end GL
namespace GL
open PySem PySem.Spec PyProof.Rows L2
/-- a property as one fact -/
structure Pf (K : PySem.W.Frag) (C : Addr) (m qual : Str) (st : Stmt) : Prop where
  ex : ∃ p g fd, PropOf K C m p g ∧ Fun K m qual st g fd
end GL
namespace KM
open PySem PySem.Spec PyProof.Rows L2 GL
section
variable {P : Program} {w : World} {K : PySem.W.Frag} {mg : Str → Option Value} {C D R T0 : Addr}
theorem all_ok {fa : Addr} (hfa : mg "law" = some (.ref fa)) (B : Bi mg) (W : Wd K mg) (F4 : Cf K mg C) (CH : Ch K mg D) (RC : Rc K mg R) (init : ∃ f fd, Mk K C f ∧ FunD K "__init__" "Moves.__init__" (defArgs (mth 0)) (defBody (mth 0)) (defScope (mth 0)) [.ref T0] [] f fd)
    (initD : ∃ f fd, Mk K D f ∧ Fun K "__init__" "Chains.__init__" (chm 0) f fd) (initR : ∃ f fd, Mk K R f ∧ FunD K "__init__" "Ratio.__init__" (defArgs (rm 0)) (defBody (rm 0)) (defScope (rm 0)) [.int 1] [] f fd)
    (pt : Pf K R "top" "Ratio.top" (rm 1)) (pb : Pf K R "bottom" "Ratio.bottom" (rm 2)) (sf : PySem.W.selfFirst K R = true)
    (below : Below K C) (eqc : ∃ f N, EqC K C f N ∧ PySem.W.findIn K (.ref C) "__eq__" = some (some (.ref f)))
    (g20 : Gf K mg "is_integer" sInt)
    (g22 : Gf K mg "is_name" sNm)
    (g23 : Gf K mg "is_good" sGd)
    (g24 : Gf K mg "is_list" sLs)
    (g25 : Gf K mg "is_triple" sTr)
    (g27 : Gf K mg "is_number" sNu)
    (g28 : Gf K mg "ratio_of" sRo)
    (g33 : Gf K mg "are_of_just" sAj)
    (g90 : Gf K mg "is_among" sAmo)
    (g91 : Gf K mg "is_keyed_among" sKa)
    (g37 : Gf K mg "_is_one_of" sEn)
    (g38 : Gf K mg "_is_condition" sCo)
    (g39 : Gf K mg "_check_goods" sCg)
    (g40 : Gf K mg "_check_conditions" sCc)
    (g42 : Gf K mg "positions_broken" sPb)
    (g43 : Gf K mg "is_move" sIsm)
    (g44 : Gf K mg "_is_implied" sIm)
    (g45 : Gf K mg "needless" sNd)
    (g46 : Gf K mg "lean" sLn)
    (g47 : Gf K mg "_check_same_goods" sSg)
    (g48 : Gf K mg "are_alike" sAl)
    (g49 : Gf K mg "parting" sPa)
    (g50 : Gf K mg "_move_apart" sMa)
    (g52 : Gf K mg "_law_pot" sPot)
    (g53 : Gf K mg "_law_draw" sDraw)
    (g54 : Gf K mg "_law_pick" sPick)
    (g55 : Gf K mg "_law_scene" sScene)
    (g56 : Gf K mg "_law_tight" sTt)
    (g57 : Gf K mg "_law_has_ring" sHg)
    (g59 : Gf K mg "_law_is_needless" sJn)
    (g60 : Gf K mg "_law_lean" sJl)
    (g61 : Gf K mg "_law_are_alike" sJa)
    (g62 : Gf K mg "_law_needless_right" sNr)
    (g63 : Gf K mg "_law_does_keep" sDk)
    (g64 : Gf K mg "_law_two_right" sTr2)
    (g65 : Gf K mg "_law_others" sOt)
    (g66 : Gf K mg "_law_scene_of" sSo)
    (g67 : Gf K mg "_law_right" sRt)
    (g68 : Gf K mg "law" sLaw)
    (m101 : Mf K C "goods" "Moves.goods" (mth 1))
    (m102 : Mf K C "conditions" "Moves.conditions" (mth 2))
    (m108 : Mf K C "__eq__" "Moves.__eq__" (mth 8))
    (m109 : Mf K C "__repr__" "Moves.__repr__" (mth 9))
    (m201 : Mf K D "_longer" "Chains._longer" (chm 1))
    (m202 : Mf K D "has_ring" "Chains.has_ring" (chm 2))
    (m203 : Mf K D "ring" "Chains.ring" (chm 3))
    (m204 : Mf K D "tightest" "Chains.tightest" (chm 4))
    (m206 : Mf K D "_least_list" "Chains._least_list" (chm 6))
    (m207 : Mf K D "move" "Chains.move" (chm 7))
    (m309 : Mf K R "is_at_most" "Ratio.is_at_most" (rm 9))
    (m310 : Mf K R "__add__" "Ratio.__add__" (rm 10))
    (m312 : Mf K R "__sub__" "Ratio.__sub__" (rm 12))
    (m319 : Mf K R "__repr__" "Ratio.__repr__" (rm 19)) :
    ∃ fd : FuncData, (∀ (s : Shared) (u : Value), BindsTo s fd ⟨[u], []⟩ [("_law_script", u)]) ∧ ∀ base : Heap, K.In base → base.Ns mainGlobals mg → FnG P w K mg base CX0 11 fa fd ["_law_script"] (spLaw K) := by
  obtain ⟨fL, fdL, aL, uL⟩ := g68.ex
  obtain rfl : fL = fa := by
    rw [aL] at hfa
    cases hfa
    rfl
  have bL : ∀ (s : Shared) (u : Value), BindsTo s fdL ⟨[u], []⟩ [("_law_script", u)] := by
    obtain ⟨oc, od, kV, doc, pm, an, cdv, ct, osl, rfl, lk, hcd⟩ := uL.ex
    exact fun s u => .of_eq rfl
  refine ⟨fdL, bL, fun base _ _ => ?_⟩
  have h20 : Has P w K mg base "is_integer" 1 ["value"] spInt := g20.has (fun _ _ _ _ _ _ us hl => match us, hl with | [_], _ => rfl) fun f fd F => ok_int F B
  have h20R : Has P w K mg base "is_integer" 1 ["value"] (spIntR R) := g20.has (fun _ _ _ _ _ _ us hl => match us, hl with | [_], _ => rfl) fun f fd F => ok_intR F B RC
  have h22 : Has P w K mg base "is_name" 1 ["value"] spNm := g22.has (fun _ _ _ _ _ _ us hl => match us, hl with | [_], _ => rfl) fun f fd F => ok_name F B W
  have h23 : Has P w K mg base "is_good" 2 ["value"] spNm := g23.has (fun _ _ _ _ _ _ us hl => match us, hl with | [_], _ => rfl) fun f fd F => ok_good F W h22
  have h24 : Has P w K mg base "is_list" 1 ["value"] (spLs K) := g24.has (fun _ _ _ _ _ _ us hl => match us, hl with | [_], _ => rfl) fun f fd F => ok_list F B
  have h25 : Has P w K mg base "is_triple" 1 ["value"] spTr := g25.has (fun _ _ _ _ _ _ us hl => match us, hl with | [_], _ => rfl) fun f fd F => ok_triple F B
  have h90 : Has P w K mg base "is_among" 1 ["names", "value"] (spAmo K) := g90.has (fun _ _ _ _ _ _ us hl => match us, hl with | [_, _], _ => rfl) fun f fd F => ok_am F B
  have h37 : Has P w K mg base "_is_one_of" 2 ["goods", "value"] (spEn K) := g37.has (fun _ _ _ _ _ _ us hl => match us, hl with | [_, _], _ => rfl) fun f fd F => ok_end F h90
  have h38 : Has P w K mg base "_is_condition" 3 ["goods", "value"] (spCo K) := g38.has (fun _ _ _ _ _ _ us hl => match us, hl with | [_, _], _ => rfl) fun f fd F => ok_cond F h25 h37 h20
  have h39 : Has P w K mg base "_check_goods" 3 ["goods"] (spCg K) := g39.has (fun _ _ _ _ _ _ us hl => match us, hl with | [_], _ => rfl) fun f fd F => ok_cg F B h24 h23
  have h40 : Has P w K mg base "_check_conditions" 4 ["goods", "conditions"] (spCc K) := g40.has (fun _ _ _ _ _ _ us hl => match us, hl with | [_, _], _ => rfl) fun f fd F => ok_cc F B h24 h38
  obtain ⟨fI, fdI, mk, uI⟩ := init
  have FI : FnG P w K mg base CX0 6 fI fdI ["self", "goods", "conditions"] (spInit K C) := (ok_init uI B F4 h39 h40).up (by decide)
  have c2 : HasC P w K mg base C 6 ["self", "goods", "conditions"] (spInit K C) 2 [] (fun vs _ => vs) := by
    obtain ⟨g1, b⟩ := kbDef (ps := ["self", "goods", "conditions"]) uI 3 [] (fun vs _ _ => vs) (by simp) (fun r _ _ => r) fun T kV doc pm an cdv ct us its ws l1 l2 l3 => match us, its, ws, l1, l2, l3 with | [_, _, _], [_], [], _, _, _ => ⟨_, rfl, rfl⟩
    exact ⟨fI, fdI, g1, mk, FI, b⟩
  have M : Mv P w K mg base C :=
    { gM := F4.gM, cl := F4.cl, mk2 := c2
      goods := m101.has (fun _ _ _ _ _ _ us hl => match us, hl with | [_], _ => rfl) fun f fd F => ok_goods F B F4
      conds := m102.has (fun _ _ _ _ _ _ us hl => match us, hl with | [_], _ => rfl) fun f fd F => ok_conds F B F4
      repr := m109.has (fun _ _ _ _ _ _ us hl => match us, hl with | [_], _ => rfl) fun f fd F => ok_repr F B F4
      eq := m108.has (fun _ _ _ _ _ _ us hl => match us, hl with | [_, _], _ => rfl) fun f fd F => KM.ok_eq F B F4
      below := below, eqc := eqc }
  have h201 : HasM P w K mg base D "_longer" 1 ["self", "sums"] (spLg P w D) := m201.has (fun _ _ _ _ _ _ us hl => match us, hl with | [_, _], _ => rfl) fun f fd F => ok_longer F B CH
  have h206 : HasM P w K mg base D "_least_list" 1 ["self", "ends", "many", "most_sum"] (spLl P w D) := m206.has (fun _ _ _ _ _ _ us hl => match us, hl with | [_, _, _, _], _ => rfl) fun f fd F => ok_ll F B CH
  have h203 : HasM P w K mg base D "ring" 2 ["self"] (spRg P w D) := m203.has (fun _ _ _ _ _ _ us hl => match us, hl with | [_], _ => rfl) fun f fd F => ok_ring F B CH h206
  obtain ⟨fJ, fdJ, mkJ, uJ⟩ := initD
  have V0 : Hv P w K mg base D :=
    { gC := CH.gC, cl := CH.cl, made := ⟨fJ, fdJ, _, mkJ, ok_chinit uJ B CH h201, kbPlace uJ (fun _ _ _ _ _ _ us hl => match us, hl with | [_, _, _], _ => rfl)⟩
      ring := m202.has (fun _ _ _ _ _ _ us hl => match us, hl with | [_], _ => rfl) fun f fd F => ok_hasring F B CH h203
      ti := m204.has (fun _ _ _ _ _ _ us hl => match us, hl with | [_, _, _], _ => rfl) fun f fd F => ok_tightest F B CH
      mv := m207.has (fun _ _ _ _ _ _ us hl => match us, hl with | [_], _ => rfl) fun f fd F => ok_move F B CH }
  obtain ⟨fR, fdR, mkR, uR⟩ := initR
  have FR : FnG P w K mg base CX0 2 fR fdR ["self", "top", "bottom"] (spRi R) := ok_rinit uR B RC h20
  have r1 : HasC P w K mg base R 2 ["self", "top", "bottom"] (spRi R) 1 [] (fun vs _ => vs ++ [.int 1]) := by
    obtain ⟨g1, b⟩ := kbDef (ps := ["self", "top", "bottom"]) uR 2 [] (fun vs ds _ => vs ++ ds) (by simp) (fun r rd _ => r.append rd) fun T kV doc pm an cdv ct us its ws l1 l2 l3 => match us, its, ws, l1, l2, l3 with | [_, _], [_], [], _, _, _ => ⟨_, rfl, rfl⟩
    exact ⟨fR, fdR, g1, mkR, FR, b⟩
  have r2 : HasC P w K mg base R 2 ["self", "top", "bottom"] (spRi R) 2 [] (fun vs _ => vs) := by
    obtain ⟨g1, b⟩ := kbDef (ps := ["self", "top", "bottom"]) uR 3 [] (fun vs _ _ => vs) (by simp) (fun r _ _ => r) fun T kV doc pm an cdv ct us its ws l1 l2 l3 => match us, its, ws, l1, l2, l3 with | [_, _, _], [_], [], _, _, _ => ⟨_, rfl, rfl⟩
    exact ⟨fR, fdR, g1, mkR, FR, b⟩
  have prop : ∀ {m fld : Str} {qual : Str} {st : Stmt}, Pf K R m qual st → FnScope ["self"] ["self"] (defScope st) → (∃ p1 p2 p3, defBody st = [.Return (some (.Attribute (.Name "self" p1) fld p2)) p3]) → NoAttr K R fld → (∀ (kV doc pm : Value) (an : Option Addr) (cdv ct : Value) (us : List Value), us.length = (["self"] : List Str).length → bindArgs (PySem.W.fnOf m qual (defArgs st) (defBody st) (defScope st) .none kV doc pm an cdv ct) ⟨us, []⟩ = pure ((["self"] : List Str).zip us)) → HasP P w K mg base R m fld := by
    intro m fld qual st pf sc hb na bd
    obtain ⟨p, g, fd, hp, u⟩ := pf.ex
    obtain ⟨oc, od, kV, doc, pm, an, cdv, ct, osl, rfl, lk, hcd⟩ := u.ex
    obtain ⟨p1, p2, p3, hb⟩ := hb
    refine ⟨p, g, _, hp, fn_getter lk hcd sc rfl hb RC.cl na, fun s us _ l => ?_⟩
    rw [List.append_nil] at l ⊢
    exact .of_eq (bd kV doc pm an cdv ct us l)
  have pT : HasP P w K mg base R "top" "_top" := prop pt ⟨rfl, rfl, rfl, by decide +kernel, rfl, by decide +kernel, by decide +kernel⟩ ⟨_, _, _, rfl⟩ RC.nT (fun _ _ _ _ _ _ us hl => match us, hl with | [_], _ => rfl)
  have pB : HasP P w K mg base R "bottom" "_bottom" := prop pb ⟨rfl, rfl, rfl, by decide +kernel, rfl, by decide +kernel, by decide +kernel⟩ ⟨_, _, _, rfl⟩ RC.nB (fun _ _ _ _ _ _ us hl => match us, hl with | [_], _ => rfl)
  have h27 : Has P w K mg base "is_number" 2 ["value"] (spNuR R) := g27.has (fun _ _ _ _ _ _ us hl => match us, hl with | [_], _ => rfl) fun f fd F => ok_numR F B RC h20R
  have h28 : Has P w K mg base "ratio_of" 4 ["value"] (spRo R) := g28.has (fun _ _ _ _ _ _ us hl => match us, hl with | [_], _ => rfl) fun f fd F => ok_ratio_of F B RC r1
  have h91 : Has P w K mg base "is_keyed_among" 2 ["names", "value"] (spAj R) := g91.has (fun _ _ _ _ _ _ us hl => match us, hl with | [_, _], _ => rfl) fun f fd F => ok_keyed F B h90
  have h33 : Has P w K mg base "are_of_just" 3 ["names", "value"] (spAj R) := g33.has (fun _ _ _ _ _ _ us hl => match us, hl with | [_, _], _ => rfl) fun f fd F => ok_just F B h91 h27
  have h309 : HasM P w K mg base R "is_at_most" 5 ["self", "other"] (spAm R) := m309.has (fun _ _ _ _ _ _ us hl => match us, hl with | [_, _], _ => rfl) fun f fd F => ok_atmost F B RC h28 pT pB
  have h310 : HasM P w K mg base R "__add__" 5 ["self", "other"] (spRa R fun i j => i + j) := m310.has (fun _ _ _ _ _ _ us hl => match us, hl with | [_, _], _ => rfl) fun f fd F => ok_radd F B RC h28 pT pB r2
  have h312 : HasM P w K mg base R "__sub__" 5 ["self", "other"] (spRa R fun i j => i - j) := m312.has (fun _ _ _ _ _ _ us hl => match us, hl with | [_, _], _ => rfl) fun f fd F => ok_rsub F B RC h28 pT pB r2
  have hRR : HasR P w K mg base R 1 (spRr R) := by
    obtain ⟨f, fd, a, u⟩ := m319.ex
    exact ⟨f, fd, ok_rrepr u B RC, kbPlace u (fun _ _ _ _ _ _ us hl => match us, hl with | [_], _ => rfl), a.at_, a.fn⟩
  have h42 : Has P w K mg base "positions_broken" 6 ["moves", "changes"] (spPb C R) := g42.has (fun _ _ _ _ _ _ us hl => match us, hl with | [_, _], _ => rfl) fun f fd F => ok_broken F B M RC h28 r1 h312 h309 sf
  have h43 : Has P w K mg base "is_move" 7 ["moves", "value"] (spIsm C R) := g43.has (fun _ _ _ _ _ _ us hl => match us, hl with | [_, _], _ => rfl) fun f fd F => ok_ismove F B M h33 h42
  have h44 : Has P w K mg base "_is_implied" 4 ["goods", "conditions", "condition"] (spIm P w D) := g44.has (fun _ _ _ _ _ _ us hl => match us, hl with | [_, _, _], _ => rfl) fun f fd F => ok_implied F B V0
  have h45 : Has P w K mg base "needless" 5 ["moves"] (spNd C) := g45.has (fun _ _ _ _ _ _ us hl => match us, hl with | [_], _ => rfl) fun f fd F => ok_needless F B M h44
  have h46 : Has P w K mg base "lean" 8 ["moves"] (spLn C) := g46.has (fun _ _ _ _ _ _ us hl => match us, hl with | [_], _ => rfl) fun f fd F => ok_lean F B M h44
  have h47 : Has P w K mg base "_check_same_goods" 2 ["one", "other"] (spSg C) := g47.has (fun _ _ _ _ _ _ us hl => match us, hl with | [_, _], _ => rfl) fun f fd F => ok_same F B M
  have h50 : Has P w K mg base "_move_apart" 4 ["left", "right"] (spMa C) := g50.has (fun _ _ _ _ _ _ us hl => match us, hl with | [_, _], _ => rfl) fun f fd F => ok_apart F B M V0
  have h49 : Has P w K mg base "parting" 5 ["one", "other"] (spPa C R) := g49.has (fun _ _ _ _ _ _ us hl => match us, hl with | [_, _], _ => rfl) fun f fd F => ok_parting F B M RC h47 h50 r1
  have h48 : Has P w K mg base "are_alike" 6 ["one", "other"] (spAl C) := g48.has (fun _ _ _ _ _ _ us hl => match us, hl with | [_, _], _ => rfl) fun f fd F => ok_alike F B h49
  have k45 : HasK P w K mg base "needless" 5 ["moves"] (spNd C) ["moves"] (fun _ zs => zs) := by
    obtain ⟨f, fd, a, F⟩ := g45.ex
    exact ⟨f, fd, _, a, F.kp, ok_needless F B M h44, kbNames F 0 ["moves"] (fun _ zs => zs) (fun _ rz => rz) fun _ _ _ _ _ _ us ws l1 l2 => match us, ws, l1, l2 with | [], [_], _, _ => rfl⟩
  have k46 : HasK P w K mg base "lean" 8 ["moves"] (spLn C) ["moves"] (fun _ zs => zs) := by
    obtain ⟨f, fd, a, F⟩ := g46.ex
    exact ⟨f, fd, _, a, F.kp, ok_lean F B M h44, kbNames F 0 ["moves"] (fun _ zs => zs) (fun _ rz => rz) fun _ _ _ _ _ _ us ws l1 l2 => match us, ws, l1, l2 with | [], [_], _, _ => rfl⟩
  have k49 : HasK P w K mg base "parting" 5 ["one", "other"] (spPa C R) ["other", "one"] (fun _ zs => zs.reverse) := by
    obtain ⟨f, fd, a, F⟩ := g49.ex
    exact ⟨f, fd, _, a, F.kp, ok_parting F B M RC h47 h50 r1, kbNames F 0 ["other", "one"] (fun _ zs => zs.reverse) (fun _ rz => rz.reverse) fun _ _ _ _ _ _ us ws l1 l2 => match us, ws, l1, l2 with | [], [_, _], _, _ => rfl⟩
  have k48 : HasK P w K mg base "are_alike" 6 ["one", "other"] (spAl C) ["other", "one"] (fun _ zs => zs.reverse) := by
    obtain ⟨f, fd, a, F⟩ := g48.ex
    exact ⟨f, fd, _, a, F.kp, ok_alike F B h49, kbNames F 0 ["other", "one"] (fun _ zs => zs.reverse) (fun _ rz => rz.reverse) fun _ _ _ _ _ _ us ws l1 l2 => match us, ws, l1, l2 with | [], [_, _], _, _ => rfl⟩
  have h52 : Has P w K mg base "_law_pot" 1 ["_law_script", "_law_k"] (spPot K) := g52.has (fun _ _ _ _ _ _ us hl => match us, hl with | [_, _], _ => rfl) fun f fd F => ok_pot F B
  have h53 : Has P w K mg base "_law_draw" 1 ["_law_pot_here", "_law_many"] spDraw := g53.has (fun _ _ _ _ _ _ us hl => match us, hl with | [_, _], _ => rfl) fun f fd F => ok_draw F B
  have h54 : Has P w K mg base "_law_pick" 2 ["_law_pot_here", "_law_some"] (spPick K) := g54.has (fun _ _ _ _ _ _ us hl => match us, hl with | [_, _], _ => rfl) fun f fd F => ok_pick F B h53
  have h55 : Has P w K mg base "_law_scene" 3 ["_law_pot_here", "_law_most"] spScene := g55.has (fun _ _ _ _ _ _ us hl => match us, hl with | [_, _], _ => rfl) fun f fd F => ok_scene F B h53 h54
  have h56 : Has P w K mg base "_law_tight" 1 ["_law_goods", "_law_rows"] (spTt P w) := g56.has (fun _ _ _ _ _ _ us hl => match us, hl with | [_, _], _ => rfl) fun f fd F => ok_tight F B
  have h57 : Has P w K mg base "_law_has_ring" 2 ["_law_goods", "_law_rows"] spHg := g57.has (fun _ _ _ _ _ _ us hl => match us, hl with | [_, _], _ => rfl) fun f fd F => ok_hasr F B h56
  have h59 : Has P w K mg base "_law_is_needless" 3 ["_law_goods", "_law_rows", "_law_at"] spJn := g59.has (fun _ _ _ _ _ _ us hl => match us, hl with | [_, _, _], _ => rfl) fun f fd F => ok_isneed F B h56 h57
  have h60 : Has P w K mg base "_law_lean" 4 ["_law_goods", "_law_rows"] spJl := g60.has (fun _ _ _ _ _ _ us hl => match us, hl with | [_, _], _ => rfl) fun f fd F => ok_jlean F B h59
  have h61 : Has P w K mg base "_law_are_alike" 3 ["_law_goods", "_law_rows", "_law_others_here"] spJa := g61.has (fun _ _ _ _ _ _ us hl => match us, hl with | [_, _, _], _ => rfl) fun f fd F => ok_jalike F B h56 h57
  have h62 : Has P w K mg base "_law_needless_right" 9 ["_law_moves", "_law_goods", "_law_rows"] (spNr C) := g62.has (fun _ _ _ _ _ _ us hl => match us, hl with | [_, _, _], _ => rfl) fun f fd F => ok_needright F B M h59 h60 h45 k45 h46 k46 h48 h49
  have h63 : Has P w K mg base "_law_does_keep" 6 ["_law_rows", "_law_changes"] (spDk R) := g63.has (fun _ _ _ _ _ _ us hl => match us, hl with | [_, _], _ => rfl) fun f fd F => ok_dokeep F B RC r1 h310 h312 h309 sf
  have h64 : Has P w K mg base "_law_two_right" 8 ["_law_goods", "_law_rows", "_law_others_here"] spT2 := g64.has (fun _ _ _ _ _ _ us hl => match us, hl with | [_, _, _], _ => rfl) fun f fd F => ok_tworight F B M RC h61 h48 k48 h49 k49 h63 h43 hRR
  have h66 : Has P w K mg base "_law_scene_of" 3 ["_law_pot_here", "_law_goods"] spSo := g66.has (fun _ _ _ _ _ _ us hl => match us, hl with | [_, _], _ => rfl) fun f fd F => ok_sceneof F B h53 h54
  have h65 : Has P w K mg base "_law_others" 4 ["_law_pot_here", "_law_goods", "_law_rows"] spOt := g65.has (fun _ _ _ _ _ _ us hl => match us, hl with | [_, _, _], _ => rfl) fun f fd F => ok_others F B h53 h66
  have h67 : Has P w K mg base "_law_right" 10 ["_law_pot_here"] spRight := g67.has (fun _ _ _ _ _ _ us hl => match us, hl with | [_], _ => rfl) fun f fd F => ok_right F B M h55 h62 h64 h65
  exact ok_law uL B h52 h67
end
end KM

set_option Elab.async false
set_option linter.all false
set_option maxRecDepth 100000
set_option maxHeartbeats 4000000
/-! The head by one kernel run: what the end leans on, as one truth value and the texts of the defs. -/
namespace GL
open PySem PySem.Spec PyProof.Rows L2
/-! ### which objects are looked at -/
def rTop (o : Obj) : List Addr := match o.data with
  | .func fd => He.refV fd.code ++ He.refV fd.defaults
  | .cls cd => [cd.ns]
  | .dict es _ => es.toList.flatMap fun e => He.refV e.val
  | .seq its _ => its.toList.flatMap He.refV
  | _ => []
def rDict (o : Obj) : List Addr := match o.data with
  | .dict es _ => es.toList.flatMap fun e => He.refV e.val
  | .seq its _ => its.toList.flatMap He.refV
  | _ => []
def rMeth (o : Obj) : List Addr := match o.data with
  | .func fd => He.refV fd.code ++ He.refV fd.defaults
  | .fields vs => vs.toList.flatMap He.refV
  | _ => []
def rLast (o : Obj) : List Addr := match o.data with
  | .func fd => He.refV fd.code
  | .seq its _ => its.toList.flatMap He.refV
  | _ => []
def nextA (g : Addr → Option Obj) (f : Obj → List Addr) (as : List Addr) : List Addr := as.flatMap fun a => match g a with
  | some o => f o
  | none => []
/-- a list made plain, ahead of what goes on with it -/
def frL {α : Type} : List Addr → (List Addr → α) → α
  | [], k => k []
  | a :: r, k => HandSHeadRun.frNat a fun a => frL r fun r => k (a :: r)
theorem frL_eq {α : Type} : ∀ (l : List Addr) (k : List Addr → α), frL l k = k l
  | [], _ => rfl
  | a :: r, k => by
    show (HandSHeadRun.frNat a fun a => frL r fun r => k (a :: r)) = _
    rw [HandSHeadRun.frNat_eq, frL_eq r]
def frK {α : Type} (g : Addr → Option Obj) : List Addr → (PySem.W.Frag → α) → α
  | [], k => k []
  | a :: r, k => match g a with
    | some ⟨c, d, dt, sl⟩ => frK g r fun K => k ((a, ⟨c, d, dt, sl⟩) :: K)
    | none => frK g r k
theorem frK_eq {α : Type} {g : Addr → Option Obj} : ∀ (l : List Addr) (k : PySem.W.Frag → α), frK g l k = k (He.frG g l)
  | [], _ => rfl
  | a :: r, k => by
    cases e : g a with
    | none =>
      show (match g a with
        | some ⟨c, d, dt, sl⟩ => frK g r fun K => k ((a, ⟨c, d, dt, sl⟩) :: K)
        | none => frK g r k) = _
      rw [e]
      show frK g r k = _
      rw [frK_eq r]
      unfold He.frG
      rw [List.filterMap_cons, e]
      rfl
    | some o =>
      obtain ⟨c, d, dt, sl⟩ := o
      show (match g a with
        | some ⟨c, d, dt, sl⟩ => frK g r fun K => k ((a, ⟨c, d, dt, sl⟩) :: K)
        | none => frK g r k) = _
      rw [e]
      show (frK g r fun K => k ((a, ⟨c, d, dt, sl⟩) :: K)) = _
      rw [frK_eq r]
      unfold He.frG
      rw [List.filterMap_cons, e]
      rfl
def withAs {α : Type} (g : Addr → Option Obj) (k : List Addr → α) : α :=
  frL (nextA g rTop [mainGlobals]) fun l1 => frL (nextA g rTop l1) fun l2 => frL (nextA g rDict l2) fun l3 => frL (nextA g rMeth l3) fun l4 => frL (nextA g rLast l4) fun l5 =>
    k (mainGlobals :: (l1 ++ (l2 ++ (l3 ++ (l4 ++ l5)))))
def asM (g : Addr → Option Obj) : List Addr := withAs g fun l => l
theorem withAs_eq {α : Type} (g : Addr → Option Obj) (k : List Addr → α) : withAs g k = k (asM g) := by
  unfold asM withAs
  simp only [frL_eq]
/-! ### a def -/
structure DfA where
  ad : PySem.W.Frag → Addr
  name : Str
  qual : Str
  params : Arguments
  body : List Stmt
  scope : Scope
  more : PySem.W.Frag → Bool
  dfl : PySem.W.Frag → List V
def fnT (K : PySem.W.Frag) (a : Addr) : He.FnW := match K.lookup a with
  | some ⟨_, _, .func fd, _⟩ => some (fd.name, fd.qualname, fd.params, fd.body, fd.scope, fd.globals, fd.closure, fd.builtins)
  | _ => none
def DfA.val (d : DfA) : He.FnW := some (d.name, d.qual, d.params, .stmts d.body, d.scope, mainGlobals, [], builtinsNs)
def DfA.ok (K : PySem.W.Frag) (d : DfA) : Bool := d.more K && (PySem.W.isFn K (.ref (d.ad K)) && (PySem.W.keepIn K (.ref (d.ad K)) && (match K.lookup (d.ad K) with
  | some ⟨_, _, .func fd, _⟩ => PySem.W.codeIn K fd.code d.qual && He.dflB K fd.defaults (d.dfl K)
  | _ => false)))
theorem DfA.funD {K : PySem.W.Frag} {d : DfA} (e : fnT K (d.ad K) = d.val) (c : d.ok K = true) :
    d.more K = true ∧ PySem.W.isFn K (.ref (d.ad K)) = true ∧ ∃ fd, FunD K d.name d.qual d.params d.body d.scope (d.dfl K) [] (d.ad K) fd := by
  obtain ⟨mr, c0⟩ := He.ba c
  obtain ⟨fn, c1⟩ := He.ba c0
  obtain ⟨kp, c2⟩ := He.ba c1
  refine ⟨mr, fn, ?_⟩
  unfold fnT at e
  cases q : K.lookup (d.ad K) with
  | none =>
    rw [q] at c2
    cases c2
  | some o =>
    obtain ⟨oc, od, dt, osl⟩ := o
    rw [q] at c2 e
    cases dt with
    | func fd =>
      obtain ⟨n1, n2, n3, n4, n5, n6, n7, n8, n9, n10, n11, n12, n13, n14, n15⟩ := fd
      have e2 : (some (n1, n2, n3, n4, n5, n6, n7, n15) : He.FnW) = some (d.name, d.qual, d.params, .stmts d.body, d.scope, mainGlobals, [], builtinsNs) := e
      simp only [Option.some.injEq, Prod.mk.injEq] at e2
      obtain ⟨h1, h2, h3, h4, h5, h6, h7, h8⟩ := e2
      subst h1 h2 h3 h4 h5 h6 h7 h8
      have c3 : (PySem.W.codeIn K n13 d.qual && He.dflB K n8 (d.dfl K)) = true := c2
      obtain ⟨k1, k2⟩ := He.ba c3
      exact ⟨_, ⟨oc, od, n8, n9, n10, n11, n12, n13, n14, osl, rfl, q, k1, He.dflB_ok k2, .inl rfl⟩, kp⟩
    | _ => cases c2
theorem fun_of {K : PySem.W.Frag} {x qual : Str} {st : Stmt} {f : Addr} {fd : FuncData} (F : FunD K x qual (defArgs st) (defBody st) (defScope st) [] [] f fd) : Fun K x qual st f fd := by
  obtain ⟨oc, od, dV, kV, doc, pm, an, cdv, ct, osl, e, lk, hcd, hD, _⟩ := F.ex
  rcases hD with ⟨_, e2⟩ | ⟨z, _⟩
  · subst e2
    exact ⟨⟨oc, od, kV, doc, pm, an, cdv, ct, osl, e, lk, hcd⟩, F.kp⟩
  · exact absurd rfl z
/-! ### the Hook -/
def obsM (es : List (PySem.W.Frag → Bool)) (fs : List DfA) (K : PySem.W.Frag) : He.AlD := ((es.all fun e => e K) && fs.all fun d => d.ok K, fs.map fun d => fnT K (d.ad K))
def valM (fs : List DfA) : He.AlD := (true, fs.map DfA.val)
def SaysM (es : List (PySem.W.Frag → Bool)) (fs : List DfA) (K : PySem.W.Frag) : Prop := obsM es fs K = valM fs
def obsMG (es : List (PySem.W.Frag → Bool)) (fs : List DfA) (g : Addr → Option Obj) : He.AlD := withAs g fun as => frK g as fun K => obsM es fs K
theorem obsMG_eq (es : List (PySem.W.Frag → Bool)) (fs : List DfA) (g : Addr → Option Obj) : obsMG es fs g = obsM es fs (He.frG g (asM g)) := by
  unfold obsMG
  rw [withAs_eq, frK_eq]
def hookM (es : List (PySem.W.Frag → Bool)) (fs : List DfA) : PySem.W.Hook where
  α := He.AlD
  obs := fun s => obsMG es fs s.heap.get?
  val := fun _ => valM fs
  says := fun _ h => ∃ K : PySem.W.Frag, K.In h ∧ SaysM es fs K
  of := fun _ s e => ⟨He.frG s.heap.get? (asM s.heap.get?), He.frG_in, (obsMG_eq es fs _).symm.trans e⟩
  keeps := fun _ _ _ ⟨K, hK, c⟩ k => ⟨K, PySem.W.Frag.In.keeps hK k, c⟩
def obM (es : List (PySem.W.Frag → Bool)) (fs : List DfA) (s : PySem.W.SharedT) : He.AlD := obsMG es fs (HandSHeadRun.getT s)
theorem obM_eq (es : List (PySem.W.Frag → Bool)) (fs : List DfA) (s : PySem.W.SharedT) : obM es fs s = (hookM es fs).obs s.abs := by
  have e : HandSHeadRun.getT s = s.abs.heap.get? := funext (HandSHeadRun.getT_eq s)
  show obsMG es fs (HandSHeadRun.getT s) = obsMG es fs s.abs.heap.get?
  rw [e]
section
variable {es : List (PySem.W.Frag → Bool)} {fs : List DfA} {K : PySem.W.Frag}
theorem SaysM.fact (c : SaysM es fs K) (i : Nat) {e : PySem.W.Frag → Bool} (h : es[i]? = some e) : e K = true := by
  have c1 := (He.ba (show ((es.all fun e => e K) && fs.all fun d => d.ok K) = true from congrArg (fun z : He.AlD => z.1) c)).1
  exact List.all_eq_true.mp c1 e (List.mem_of_getElem? h)
theorem SaysM.def_ (c : SaysM es fs K) (i : Nat) {d : DfA} (h : fs[i]? = some d) : d.more K = true ∧ PySem.W.isFn K (.ref (d.ad K)) = true ∧ ∃ fd, FunD K d.name d.qual d.params d.body d.scope (d.dfl K) [] (d.ad K) fd := by
  have c2 := (He.ba (show ((es.all fun e => e K) && fs.all fun d => d.ok K) = true from congrArg (fun z : He.AlD => z.1) c)).2
  have e : fs.map (fun d => fnT K (d.ad K)) = fs.map DfA.val := congrArg (fun z : He.AlD => z.2) c
  have e2 : (fs.map fun d => fnT K (d.ad K))[i]? = (fs.map DfA.val)[i]? := by rw [e]
  rw [List.getElem?_map, List.getElem?_map, h] at e2
  exact DfA.funD (Option.some.inj e2) (List.all_eq_true.mp c2 d (List.mem_of_getElem? h))
end
/-! ### defs by their places -/
def dG (x : Str) (st : Stmt) : DfA := ⟨fun K => He.ga K x, x, x, defArgs st, defBody st, defScope st, fun K => (He.Fa.glo x).ok K, fun _ => []⟩
def dM (c m qual : Str) (st : Stmt) (dfl : PySem.W.Frag → List V) : DfA := ⟨fun K => He.ma K (He.ga K c) m, m, qual, defArgs st, defBody st, defScope st, fun K => He.eqO (PySem.W.findIn K (.ref (He.ga K c)) m) (some (some (.ref (He.ma K (He.ga K c) m)))), dfl⟩
/-- a property's getter -/
def fget (K : PySem.W.Frag) (p : Addr) : Addr := match PySem.W.recIn K p "property" with
  | some (.ref g :: _) => g
  | _ => 0
def propB (K : PySem.W.Frag) (R p : Addr) (m : Str) : Bool := He.eqO (PySem.W.findIn K (.ref R) m) (some (some (.ref p))) && (decide (PySem.W.specialIn K (.ref p) "__get__" = some (some (.builtin "property.__get__"))) && (decide (PySem.W.takesIn K (.ref p) = some true) && (match PySem.W.recIn K p "property" with
  | some (.ref _ :: _) => true
  | _ => false)))
def dP (c m qual : Str) (st : Stmt) : DfA := ⟨fun K => fget K (He.ma K (He.ga K c) m), m, qual, defArgs st, defBody st, defScope st, fun K => propB K (He.ga K c) (He.ma K (He.ga K c) m) m, fun _ => []⟩
/-- an object default of a method -/
def dflM (c m : Str) (K : PySem.W.Frag) : Addr := match K.lookup (He.ma K (He.ga K c) m) with
  | some ⟨_, _, .func fd, _⟩ => (match fd.defaults with
    | .ref T => (match K.lookup T with
      | some ⟨_, _, .seq its _, _⟩ => (match its.toList with
        | .ref a :: _ => a
        | _ => 0)
      | _ => 0)
    | _ => 0)
  | _ => 0
def noTup (K : PySem.W.Frag) (a : Addr) : Bool := match K.lookup a with
  | some ⟨.type t, _, .seq its _, _⟩ => decide (t = "tuple") && its.isEmpty
  | _ => false
theorem noTup_ok {K : PySem.W.Frag} {a : Addr} (h : noTup K a = true) : SqT K (fun _ => none) a [] := by
  unfold noTup at h
  cases q : K.lookup a with
  | none =>
    rw [q] at h
    cases h
  | some o =>
    obtain ⟨oc, od, dt, osl⟩ := o
    rw [q] at h
    cases oc with
    | type t =>
      cases dt with
      | seq its n =>
        obtain ⟨h1, h2⟩ := He.ba h
        have e1 : t = "tuple" := of_decide_eq_true h1
        have e2 : its = #[] := Array.isEmpty_iff.mp h2
        subst e1 e2
        exact .inr ⟨_, #[], n, q, rfl, rfl, by decide, .nil⟩
      | _ => cases h
    | _ => cases dt <;> cases h
def nsOf (K : PySem.W.Frag) (C : Addr) : Addr := match K.lookup C with
  | some ⟨_, _, .cls cd, _⟩ => cd.ns
  | _ => 0
def slB : List (Option Value) → Bool
  | [_, _, _, _, some (.builtin _), _] => true
  | _ => false
theorem slB_ok {l : List (Option Value)} (h : slB l = true) : ∃ k0 k1 k2 k3 id k5, l = [k0, k1, k2, k3, some (.builtin id), k5] := by
  unfold slB at h
  split at h
  · exact ⟨_, _, _, _, _, _, rfl⟩
  · cases h
/-- a class of the text: its own object -/
def ownB (K : PySem.W.Frag) (C N : Addr) : Bool := match K.lookup C with
  | some ⟨.type t, _, .cls cd, sl⟩ => decide (t = "type") && (decide (cd.ns = N) && (decide (cd.mro = [.ref C, .type "object"]) && (!cd.hasDel && slB sl.toList)))
  | _ => false
theorem ownB_ok {K : PySem.W.Frag} {C N : Addr} (h : ownB K C N = true) : ∃ nm q bs hd sn sub ab col dd k0 k1 k2 k3 k5 id, K.lookup C = some (excClassObj nm q C N bs [.type "object"] hd sn sub ab col dd k0 k1 k2 k3 k5 id) := by
  unfold ownB at h
  cases q : K.lookup C with
  | none =>
    rw [q] at h
    cases h
  | some o =>
    obtain ⟨oc, od, dt, ⟨sl⟩⟩ := o
    rw [q] at h
    cases oc with
    | type t =>
      cases dt with
      | cls cd =>
        obtain ⟨n1, n2, n3, n4, n5, n6, n7, n8, n9, n10, n11⟩ := cd
        obtain ⟨h1, h⟩ := He.ba h
        obtain ⟨h2, h⟩ := He.ba h
        obtain ⟨h3, h⟩ := He.ba h
        obtain ⟨h4, h⟩ := He.ba h
        have e1 : t = "type" := of_decide_eq_true h1
        have e2 : n4 = N := of_decide_eq_true h2
        have e3 : n3 = [.ref C, .type "object"] := of_decide_eq_true h3
        have e4 : n11 = false := by
          cases n11 with
          | false => rfl
          | true => cases h4
        have h5 : slB sl = true := h
        subst e1 e2 e3 e4
        obtain ⟨k0, k1, k2, k3, id, k5, rfl⟩ := slB_ok h5
        exact ⟨n1, n5, n2, n6, n7, n8, n9, n10, od, k0, k1, k2, k3, k5, id, rfl⟩
      | _ => cases h
    | _ => cases dt <;> cases h
section
variable {K : PySem.W.Frag} {h : Heap} {mg : Str → Option Value} {x c m qual : Str} {st : Stmt} {es : List (PySem.W.Frag → Bool)} {fs : List DfA}
theorem SaysM.gf (s : SaysM es fs K) (X : K.In h) (G : h.Ns mainGlobals mg) (i : Nat) (e : fs[i]? = some (dG x st)) : Gf K mg x st := by
  obtain ⟨a, _, fd, F⟩ := s.def_ i e
  exact ⟨_, fd, He.glo_ok X G a, fun_of F⟩
theorem SaysM.mf (s : SaysM es fs K) (i : Nat) (e : fs[i]? = some (dM c m qual st fun _ => [])) : Mf K (He.ga K c) m qual st := by
  obtain ⟨a, b, fd, F⟩ := s.def_ i e
  exact ⟨_, fd, ⟨He.eqO_ok a, b, F.kp⟩, fun_of F⟩
theorem SaysM.pf (s : SaysM es fs K) (i : Nat) (e : fs[i]? = some (dP c m qual st)) : Pf K (He.ga K c) m qual st := by
  obtain ⟨a, b, fd, F⟩ := s.def_ i e
  obtain ⟨a1, a⟩ := He.ba a
  obtain ⟨a2, a⟩ := He.ba a
  obtain ⟨a3, a4⟩ := He.ba a
  refine ⟨_, _, fd, ⟨He.eqO_ok a1, of_decide_eq_true a2, of_decide_eq_true a3, ?_⟩, fun_of F⟩
  show ∃ rest, PySem.W.recIn K _ "property" = some (.ref (fget K _) :: rest)
  unfold fget
  cases q : PySem.W.recIn K (He.ma K (He.ga K c) m) "property" with
  | none =>
    rw [q] at a4
    cases a4
  | some l =>
    rw [q] at a4
    match l, a4 with
    | .ref g :: r, _ => exact ⟨r, rfl⟩
end
/-- the end over such a head -/
theorem walk_gE {l : PySem.W.OpenLaw} {n k : Nat} {q : Program} {loose : List Str} {XP : (Str → Option Value) → Heap → Prop} {YP : World → Heap → Prop} {d : DefRec} {x : Str} {sp : PySem.W.Frag → Sp}
    (most : l.most = some n) (small : n ≤ sizeLine) (plain : d.params.defaults = []) (room : Room k callerA)
    (F : ∀ (w : World) (mg : Str → Option Value) (f : Addr) (h : Heap), YP w h → h.Ns mainGlobals mg → mg d.name = some (.ref f) →
      ∃ (K : PySem.W.Frag) (fd : FuncData), K.In h ∧ (∀ (s : Shared) (u : Value), BindsTo s fd ⟨[u], []⟩ [(x, u)]) ∧ ∀ base : Heap, K.In base → base.Ns mainGlobals mg → FnG l.prog w K mg base CX0 k f fd [x] (sp K))
    (hq : ∀ (K : PySem.W.Frag) (H : Hp) (a : Addr) (zs : List Int), zs.length ≤ n → SqL K H a (zs.map V.int) → sp K [.ref a] H (fun v _ => v = .bl true) fun _ _ _ => False) :
    PySem.W.WalkO q loose XP YP l.row.toRowW d [] (fun f vs => PySem.call f vs) := by
  refine Att.attach_call most plain ?_
  intro w s₀ s₁ mg mb f o pm cd doc a us zs G Y _ _ _ hf ha whole len gens
  obtain ⟨K, fd, kin, b, hF⟩ := F w mg f _ Y G.T.g hf
  exact call_law kin G.T.g G.T.b G.T.builtins G.T.nolimit gens ha whole (Nat.le_trans len small) room hF b fun H _ hS => hq _ H a zs len hS
end GL

set_option Elab.async false
set_option linter.all false
set_option maxRecDepth 100000
set_option maxHeartbeats 4000000
namespace KM
open PySem PySem.Spec PyProof.Rows L2 GL
def es0 : List (PySem.W.Frag → Bool) := [fun K => (He.Fa.free "len").ok K,
  fun K => (He.Fa.free "divmod").ok K,
  fun K => (He.Fa.free "int").ok K,
  fun K => (He.Fa.free "abs").ok K,
  fun K => (He.Fa.free "max").ok K,
  fun K => (He.Fa.free "min").ok K,
  fun K => (He.Fa.free "range").ok K,
  fun K => (He.Fa.free "list").ok K,
  fun K => (He.Fa.free "tuple").ok K,
  fun K => (He.Fa.free "repr").ok K,
  fun K => (He.Fa.free "sorted").ok K,
  fun K => (He.Fa.free "enumerate").ok K]
def es1 : List (PySem.W.Frag → Bool) := [fun K => (He.Fa.free "all").ok K,
  fun K => (He.Fa.free "any").ok K,
  fun K => (He.Fa.free "isinstance").ok K,
  fun K => (He.Fa.free "str").ok K,
  fun K => (He.Fa.free "bool").ok K,
  fun K => (He.Fa.free "dict").ok K,
  fun K => (He.Fa.free "sum").ok K,
  fun K => (He.Fa.free "reversed").ok K,
  fun K => (He.Fa.str "LETTERS" KM.abc).ok K,
  fun K => (He.Fa.int "MOST_LETTERS" 8).ok K,
  fun K => (He.Fa.glo "NO_GOODS").ok K,
  fun K => He.tupB K "NO_GOODS" (KM.kept.map He.Dv.str)]
def es2 : List (PySem.W.Frag → Bool) := [fun K => (He.Fa.glo "Moves").ok K,
  fun K => (He.Fa.cls "Moves").ok K,
  fun K => (He.Fa.mkr "Moves").ok K,
  fun K => (He.Fa.noat "Moves" "_goods").ok K,
  fun K => (He.Fa.noat "Moves" "_conditions").ok K,
  fun K => He.eqO (PySem.W.findIn K (.ref (He.ga K "Moves")) "__class__") (some (some (.builtin "object.__class__"))),
  fun K => He.eqO (PySem.W.specialIn K (.builtin "object.__class__") "__get__") (some (some (.builtin "getset_descriptor.__get__"))),
  fun K => decide (PySem.W.takesIn K (.builtin "object.__class__") = some true),
  fun K => decide (PySem.W.mroIn K (He.ga K "Moves") (.type "object") = some true),
  fun K => decide (PySem.W.kitOne K (.type "list") (.ref (He.ga K "Moves")) = some false),
  fun K => decide (PySem.W.subIn K (.type "list") (.ref (He.ga K "Moves")) = some false),
  fun K => decide (PySem.W.kitOne K (.type "tuple") (.ref (He.ga K "Moves")) = some false)]
def es3 : List (PySem.W.Frag → Bool) := [fun K => decide (PySem.W.subIn K (.type "tuple") (.ref (He.ga K "Moves")) = some false),
  fun K => decide (PySem.W.kitOne K (.type "NoneType") (.ref (He.ga K "Moves")) = some false),
  fun K => decide (PySem.W.subIn K (.type "NoneType") (.ref (He.ga K "Moves")) = some false),
  fun K => decide (PySem.W.kitOne K (.type "int") (.ref (He.ga K "Moves")) = some false),
  fun K => decide (PySem.W.subIn K (.type "int") (.ref (He.ga K "Moves")) = some false),
  fun K => decide (PySem.W.kitOne K (.type "str") (.ref (He.ga K "Moves")) = some false),
  fun K => decide (PySem.W.subIn K (.type "str") (.ref (He.ga K "Moves")) = some false),
  fun K => (He.Fa.int "MOST_GOODS" 4).ok K,
  fun K => (He.Fa.int "MOST_CONDITIONS" 24).ok K,
  fun K => noTup K (dflM "Moves" "__init__" K),
  fun K => ownB K (He.ga K "Moves") (nsOf K (He.ga K "Moves")),
  fun K => PySem.W.nsOkIn K (nsOf K (He.ga K "Moves"))]
def es4 : List (PySem.W.Frag → Bool) := [fun K => He.eqO (PySem.W.nsIn K (nsOf K (He.ga K "Moves")) "__eq__") (some (some (.ref (He.ma K (He.ga K "Moves") "__eq__")))),
  fun K => He.eqO (PySem.W.nsIn K (nsOf K (He.ga K "Moves")) "__ne__") (some none),
  fun K => decide (PySem.W.typeIn K (.ref (He.ma K (He.ga K "Moves") "__eq__")) = some (.type "function")),
  fun K => He.eqO (PySem.W.findIn K (.ref (He.ga K "Moves")) "__eq__") (some (some (.ref (He.ma K (He.ga K "Moves") "__eq__")))),
  fun K => (He.Fa.glo "Chains").ok K,
  fun K => (He.Fa.cls "Chains").ok K,
  fun K => (He.Fa.mkr "Chains").ok K,
  fun K => (He.Fa.noat "Chains" "_places").ok K,
  fun K => (He.Fa.noat "Chains" "_conditions").ok K,
  fun K => (He.Fa.noat "Chains" "_many").ok K,
  fun K => (He.Fa.noat "Chains" "_least_sums").ok K,
  fun K => (He.Fa.glo "Ratio").ok K]
def es5 : List (PySem.W.Frag → Bool) := [fun K => (He.Fa.cls "Ratio").ok K,
  fun K => (He.Fa.mkr "Ratio").ok K,
  fun K => (He.Fa.noat "Ratio" "_top").ok K,
  fun K => (He.Fa.noat "Ratio" "_bottom").ok K,
  fun K => He.eqO (PySem.W.findIn K (.ref (He.ga K "Ratio")) "__class__") (some (some (.builtin "object.__class__"))),
  fun K => decide (PySem.W.mroIn K (He.ga K "Ratio") (.type "object") = some true),
  fun K => decide (PySem.W.kitOne K (.type "int") (.ref (He.ga K "Ratio")) = some false),
  fun K => decide (PySem.W.kitOne K (.ref (He.ga K "Ratio")) (.type "int") = some false),
  fun K => He.eqO (PySem.W.nsIn K mainGlobals "gcd") (some (some (.builtin "math.gcd"))),
  fun K => PySem.W.selfFirst K (He.ga K "Ratio")]
def es : List (PySem.W.Frag → Bool) := es0 ++ (es1 ++ (es2 ++ (es3 ++ (es4 ++ (es5)))))
def fs0 : List (DfA) := [dG "is_integer" sInt,
  dG "is_name" sNm,
  dG "is_good" sGd,
  dG "is_list" sLs,
  dG "is_triple" sTr,
  dG "is_number" sNu,
  dG "ratio_of" sRo,
  dG "are_of_just" sAj,
  dG "is_among" sAmo,
  dG "is_keyed_among" sKa,
  dG "_is_one_of" sEn,
  dG "_is_condition" sCo]
def fs1 : List (DfA) := [dG "_check_goods" sCg,
  dG "_check_conditions" sCc,
  dG "positions_broken" sPb,
  dG "is_move" sIsm,
  dG "_is_implied" sIm,
  dG "needless" sNd,
  dG "lean" sLn,
  dG "_check_same_goods" sSg,
  dG "are_alike" sAl,
  dG "parting" sPa,
  dG "_move_apart" sMa,
  dG "_law_pot" sPot]
def fs2 : List (DfA) := [dG "_law_draw" sDraw,
  dG "_law_pick" sPick,
  dG "_law_scene" sScene,
  dG "_law_tight" sTt,
  dG "_law_has_ring" sHg,
  dG "_law_is_needless" sJn,
  dG "_law_lean" sJl,
  dG "_law_are_alike" sJa,
  dG "_law_needless_right" sNr,
  dG "_law_does_keep" sDk,
  dG "_law_two_right" sTr2,
  dG "_law_others" sOt]
def fs3 : List (DfA) := [dG "_law_scene_of" sSo,
  dG "_law_right" sRt,
  dG "law" sLaw,
  dM "Moves" "goods" "Moves.goods" (mth 1) fun _ => [],
  dM "Moves" "conditions" "Moves.conditions" (mth 2) fun _ => [],
  dM "Moves" "__eq__" "Moves.__eq__" (mth 8) fun _ => [],
  dM "Moves" "__repr__" "Moves.__repr__" (mth 9) fun _ => [],
  dM "Chains" "_longer" "Chains._longer" (chm 1) fun _ => [],
  dM "Chains" "has_ring" "Chains.has_ring" (chm 2) fun _ => [],
  dM "Chains" "ring" "Chains.ring" (chm 3) fun _ => [],
  dM "Chains" "tightest" "Chains.tightest" (chm 4) fun _ => [],
  dM "Chains" "_least_list" "Chains._least_list" (chm 6) fun _ => []]
def fs4 : List (DfA) := [dM "Chains" "move" "Chains.move" (chm 7) fun _ => [],
  dM "Ratio" "is_at_most" "Ratio.is_at_most" (rm 9) fun _ => [],
  dM "Ratio" "__add__" "Ratio.__add__" (rm 10) fun _ => [],
  dM "Ratio" "__sub__" "Ratio.__sub__" (rm 12) fun _ => [],
  dM "Ratio" "__repr__" "Ratio.__repr__" (rm 19) fun _ => [],
  dM "Moves" "__init__" "Moves.__init__" (mth 0) fun K => [.ref (dflM "Moves" "__init__" K)],
  dM "Chains" "__init__" "Chains.__init__" (chm 0) fun _ => [],
  dM "Ratio" "__init__" "Ratio.__init__" (rm 0) fun _ => [.int 1],
  dP "Ratio" "top" "Ratio.top" (rm 1),
  dP "Ratio" "bottom" "Ratio.bottom" (rm 2)]
def fs : List (DfA) := fs0 ++ (fs1 ++ (fs2 ++ (fs3 ++ (fs4))))
theorem facts {P : Program} {w : World} {K : PySem.W.Frag} {h : Heap} {mg : Str → Option Value} {fa : Addr} (X : K.In h) (G : h.Ns mainGlobals mg) (hfa : mg "law" = some (.ref fa)) (S : SaysM es fs K) :
    ∃ fd : FuncData, (∀ (s : Shared) (u : Value), BindsTo s fd ⟨[u], []⟩ [("_law_script", u)]) ∧ ∀ base : Heap, K.In base → base.Ns mainGlobals mg → FnG P w K mg base CX0 11 fa fd ["_law_script"] (spLaw K) := by
  have B : Bi mg := ⟨He.free_ok X G (S.fact 0 (e := fun K => (He.Fa.free "len").ok K) rfl), He.free_ok X G (S.fact 1 (e := fun K => (He.Fa.free "divmod").ok K) rfl), He.free_ok X G (S.fact 2 (e := fun K => (He.Fa.free "int").ok K) rfl), He.free_ok X G (S.fact 3 (e := fun K => (He.Fa.free "abs").ok K) rfl), He.free_ok X G (S.fact 4 (e := fun K => (He.Fa.free "max").ok K) rfl), He.free_ok X G (S.fact 5 (e := fun K => (He.Fa.free "min").ok K) rfl), He.free_ok X G (S.fact 6 (e := fun K => (He.Fa.free "range").ok K) rfl), He.free_ok X G (S.fact 7 (e := fun K => (He.Fa.free "list").ok K) rfl), He.free_ok X G (S.fact 8 (e := fun K => (He.Fa.free "tuple").ok K) rfl), He.free_ok X G (S.fact 9 (e := fun K => (He.Fa.free "repr").ok K) rfl), He.free_ok X G (S.fact 10 (e := fun K => (He.Fa.free "sorted").ok K) rfl), He.free_ok X G (S.fact 11 (e := fun K => (He.Fa.free "enumerate").ok K) rfl), He.free_ok X G (S.fact 12 (e := fun K => (He.Fa.free "all").ok K) rfl), He.free_ok X G (S.fact 13 (e := fun K => (He.Fa.free "any").ok K) rfl), He.free_ok X G (S.fact 14 (e := fun K => (He.Fa.free "isinstance").ok K) rfl), He.free_ok X G (S.fact 15 (e := fun K => (He.Fa.free "str").ok K) rfl), He.free_ok X G (S.fact 16 (e := fun K => (He.Fa.free "bool").ok K) rfl), He.free_ok X G (S.fact 17 (e := fun K => (He.Fa.free "dict").ok K) rfl), He.free_ok X G (S.fact 18 (e := fun K => (He.Fa.free "sum").ok K) rfl), He.free_ok X G (S.fact 19 (e := fun K => (He.Fa.free "reversed").ok K) rfl)⟩
  have W : Wd K mg := by
    refine ⟨He.str_ok X G (S.fact 20 (e := fun K => (He.Fa.str "LETTERS" KM.abc).ok K) rfl), He.int_ok X G (S.fact 21 (e := fun K => (He.Fa.int "MOST_LETTERS" 8).ok K) rfl), _, He.glo_ok X G (S.fact 22 (e := fun K => (He.Fa.glo "NO_GOODS").ok K) rfl), ?_⟩
    exact He.tupB_ok (S.fact 23 (e := fun K => He.tupB K "NO_GOODS" (KM.kept.map He.Dv.str)) rfl) fun _ => none
  have F4 : Cf K mg (He.ga K "Moves") := ⟨He.glo_ok X G (S.fact 24 (e := fun K => (He.Fa.glo "Moves").ok K) rfl), He.cls_ok (S.fact 25 (e := fun K => (He.Fa.cls "Moves").ok K) rfl), He.noat_ok (S.fact 27 (e := fun K => (He.Fa.noat "Moves" "_goods").ok K) rfl), He.noat_ok (S.fact 28 (e := fun K => (He.Fa.noat "Moves" "_conditions").ok K) rfl), (He.eqO_ok (S.fact 29 (e := fun K => He.eqO (PySem.W.findIn K (.ref (He.ga K "Moves")) "__class__") (some (some (.builtin "object.__class__")))) rfl)), (He.eqO_ok (S.fact 30 (e := fun K => He.eqO (PySem.W.specialIn K (.builtin "object.__class__") "__get__") (some (some (.builtin "getset_descriptor.__get__")))) rfl)), (of_decide_eq_true (S.fact 31 (e := fun K => decide (PySem.W.takesIn K (.builtin "object.__class__") = some true)) rfl)), (of_decide_eq_true (S.fact 32 (e := fun K => decide (PySem.W.mroIn K (He.ga K "Moves") (.type "object") = some true)) rfl)), (of_decide_eq_true (S.fact 33 (e := fun K => decide (PySem.W.kitOne K (.type "list") (.ref (He.ga K "Moves")) = some false)) rfl)), (of_decide_eq_true (S.fact 35 (e := fun K => decide (PySem.W.kitOne K (.type "tuple") (.ref (He.ga K "Moves")) = some false)) rfl)), (of_decide_eq_true (S.fact 37 (e := fun K => decide (PySem.W.kitOne K (.type "NoneType") (.ref (He.ga K "Moves")) = some false)) rfl)), (of_decide_eq_true (S.fact 39 (e := fun K => decide (PySem.W.kitOne K (.type "int") (.ref (He.ga K "Moves")) = some false)) rfl)), (of_decide_eq_true (S.fact 41 (e := fun K => decide (PySem.W.kitOne K (.type "str") (.ref (He.ga K "Moves")) = some false)) rfl)), He.int_ok X G (S.fact 43 (e := fun K => (He.Fa.int "MOST_GOODS" 4).ok K) rfl), He.int_ok X G (S.fact 44 (e := fun K => (He.Fa.int "MOST_CONDITIONS" 24).ok K) rfl)⟩
  have CH : Ch K mg (He.ga K "Chains") := ⟨He.glo_ok X G (S.fact 52 (e := fun K => (He.Fa.glo "Chains").ok K) rfl), He.cls_ok (S.fact 53 (e := fun K => (He.Fa.cls "Chains").ok K) rfl), He.noat_ok (S.fact 55 (e := fun K => (He.Fa.noat "Chains" "_places").ok K) rfl), He.noat_ok (S.fact 56 (e := fun K => (He.Fa.noat "Chains" "_conditions").ok K) rfl), He.noat_ok (S.fact 57 (e := fun K => (He.Fa.noat "Chains" "_many").ok K) rfl), He.noat_ok (S.fact 58 (e := fun K => (He.Fa.noat "Chains" "_least_sums").ok K) rfl)⟩
  have RC : Rc K mg (He.ga K "Ratio") := ⟨He.glo_ok X G (S.fact 59 (e := fun K => (He.Fa.glo "Ratio").ok K) rfl), He.cls_ok (S.fact 60 (e := fun K => (He.Fa.cls "Ratio").ok K) rfl), He.noat_ok (S.fact 62 (e := fun K => (He.Fa.noat "Ratio" "_top").ok K) rfl), He.noat_ok (S.fact 63 (e := fun K => (He.Fa.noat "Ratio" "_bottom").ok K) rfl), (He.eqO_ok (S.fact 64 (e := fun K => He.eqO (PySem.W.findIn K (.ref (He.ga K "Ratio")) "__class__") (some (some (.builtin "object.__class__")))) rfl)), (He.eqO_ok (S.fact 30 (e := fun K => He.eqO (PySem.W.specialIn K (.builtin "object.__class__") "__get__") (some (some (.builtin "getset_descriptor.__get__")))) rfl)), (of_decide_eq_true (S.fact 31 (e := fun K => decide (PySem.W.takesIn K (.builtin "object.__class__") = some true)) rfl)), (of_decide_eq_true (S.fact 65 (e := fun K => decide (PySem.W.mroIn K (He.ga K "Ratio") (.type "object") = some true)) rfl)), (of_decide_eq_true (S.fact 66 (e := fun K => decide (PySem.W.kitOne K (.type "int") (.ref (He.ga K "Ratio")) = some false)) rfl)), (of_decide_eq_true (S.fact 67 (e := fun K => decide (PySem.W.kitOne K (.ref (He.ga K "Ratio")) (.type "int") = some false)) rfl)), PySem.W.mg_of X G (He.eqO_ok (S.fact 68 (e := fun K => He.eqO (PySem.W.nsIn K mainGlobals "gcd") (some (some (.builtin "math.gcd")))) rfl))⟩
  have t0 : SqT K (fun _ => none) (dflM "Moves" "__init__" K) [] := noTup_ok (S.fact 45 (e := fun K => noTup K (dflM "Moves" "__init__" K)) rfl)
  have init : ∃ f fd, Mk K (He.ga K "Moves") f ∧ FunD K "__init__" "Moves.__init__" (defArgs (mth 0)) (defBody (mth 0)) (defScope (mth 0)) [.ref (dflM "Moves" "__init__" K)] [] f fd := by
    obtain ⟨_, _, fd, F⟩ := S.def_ 53 (d := dM "Moves" "__init__" "Moves.__init__" (mth 0) fun K => [.ref (dflM "Moves" "__init__" K)]) rfl
    exact ⟨_, fd, He.mkr_ok (x := "Moves") (S.fact 26 (e := fun K => (He.Fa.mkr "Moves").ok K) rfl), F⟩
  have initD : ∃ f fd, Mk K (He.ga K "Chains") f ∧ Fun K "__init__" "Chains.__init__" (chm 0) f fd := by
    obtain ⟨_, _, fd, F⟩ := S.def_ 54 (d := dM "Chains" "__init__" "Chains.__init__" (chm 0) fun _ => []) rfl
    exact ⟨_, fd, He.mkr_ok (x := "Chains") (S.fact 54 (e := fun K => (He.Fa.mkr "Chains").ok K) rfl), fun_of F⟩
  have initR : ∃ f fd, Mk K (He.ga K "Ratio") f ∧ FunD K "__init__" "Ratio.__init__" (defArgs (rm 0)) (defBody (rm 0)) (defScope (rm 0)) [.int 1] [] f fd := by
    obtain ⟨_, _, fd, F⟩ := S.def_ 55 (d := dM "Ratio" "__init__" "Ratio.__init__" (rm 0) fun _ => [.int 1]) rfl
    exact ⟨_, fd, He.mkr_ok (x := "Ratio") (S.fact 61 (e := fun K => (He.Fa.mkr "Ratio").ok K) rfl), F⟩
  exact all_ok (T0 := dflM "Moves" "__init__" K) hfa B W F4 CH RC init initD initR (S.pf 56 rfl) (S.pf 57 rfl) (S.fact 69 (e := fun K => PySem.W.selfFirst K (He.ga K "Ratio")) rfl) ⟨(of_decide_eq_true (S.fact 34 (e := fun K => decide (PySem.W.subIn K (.type "list") (.ref (He.ga K "Moves")) = some false)) rfl)), (of_decide_eq_true (S.fact 36 (e := fun K => decide (PySem.W.subIn K (.type "tuple") (.ref (He.ga K "Moves")) = some false)) rfl)), (of_decide_eq_true (S.fact 38 (e := fun K => decide (PySem.W.subIn K (.type "NoneType") (.ref (He.ga K "Moves")) = some false)) rfl)), (of_decide_eq_true (S.fact 40 (e := fun K => decide (PySem.W.subIn K (.type "int") (.ref (He.ga K "Moves")) = some false)) rfl)), (of_decide_eq_true (S.fact 42 (e := fun K => decide (PySem.W.subIn K (.type "str") (.ref (He.ga K "Moves")) = some false)) rfl))⟩ ⟨_, _, ⟨ownB_ok (S.fact 46 (e := fun K => ownB K (He.ga K "Moves") (nsOf K (He.ga K "Moves"))) rfl), (S.fact 47 (e := fun K => PySem.W.nsOkIn K (nsOf K (He.ga K "Moves"))) rfl), (He.eqO_ok (S.fact 48 (e := fun K => He.eqO (PySem.W.nsIn K (nsOf K (He.ga K "Moves")) "__eq__") (some (some (.ref (He.ma K (He.ga K "Moves") "__eq__"))))) rfl)), (He.eqO_ok (S.fact 49 (e := fun K => He.eqO (PySem.W.nsIn K (nsOf K (He.ga K "Moves")) "__ne__") (some none)) rfl)), (of_decide_eq_true (S.fact 50 (e := fun K => decide (PySem.W.typeIn K (.ref (He.ma K (He.ga K "Moves") "__eq__")) = some (.type "function"))) rfl))⟩, (He.eqO_ok (S.fact 51 (e := fun K => He.eqO (PySem.W.findIn K (.ref (He.ga K "Moves")) "__eq__") (some (some (.ref (He.ma K (He.ga K "Moves") "__eq__"))))) rfl))⟩
    (S.gf X G 0 rfl)
    (S.gf X G 1 rfl)
    (S.gf X G 2 rfl)
    (S.gf X G 3 rfl)
    (S.gf X G 4 rfl)
    (S.gf X G 5 rfl)
    (S.gf X G 6 rfl)
    (S.gf X G 7 rfl)
    (S.gf X G 8 rfl)
    (S.gf X G 9 rfl)
    (S.gf X G 10 rfl)
    (S.gf X G 11 rfl)
    (S.gf X G 12 rfl)
    (S.gf X G 13 rfl)
    (S.gf X G 14 rfl)
    (S.gf X G 15 rfl)
    (S.gf X G 16 rfl)
    (S.gf X G 17 rfl)
    (S.gf X G 18 rfl)
    (S.gf X G 19 rfl)
    (S.gf X G 20 rfl)
    (S.gf X G 21 rfl)
    (S.gf X G 22 rfl)
    (S.gf X G 23 rfl)
    (S.gf X G 24 rfl)
    (S.gf X G 25 rfl)
    (S.gf X G 26 rfl)
    (S.gf X G 27 rfl)
    (S.gf X G 28 rfl)
    (S.gf X G 29 rfl)
    (S.gf X G 30 rfl)
    (S.gf X G 31 rfl)
    (S.gf X G 32 rfl)
    (S.gf X G 33 rfl)
    (S.gf X G 34 rfl)
    (S.gf X G 35 rfl)
    (S.gf X G 36 rfl)
    (S.gf X G 37 rfl)
    (S.gf X G 38 rfl)
    (S.mf 39 rfl)
    (S.mf 40 rfl)
    (S.mf 41 rfl)
    (S.mf 42 rfl)
    (S.mf 43 rfl)
    (S.mf 44 rfl)
    (S.mf 45 rfl)
    (S.mf 46 rfl)
    (S.mf 47 rfl)
    (S.mf 48 rfl)
    (S.mf 49 rfl)
    (S.mf 50 rfl)
    (S.mf 51 rfl)
    (S.mf 52 rfl)
end KM

set_option Elab.async false
set_option linter.all false
set_option maxRecDepth 100000
set_option maxHeartbeats 0
namespace KM
open PySem PySem.W PySem.Calls PyProof.Rows
abbrev RR : OpenRow := OpenLaw.row PySem.Challenge.rw_lateledger_k53_whole_needless_and_alike
abbrev qv : Program := view RR.prog [0, 70]
def loose0 : List PySem.Str := ["_wall", "Chains", "LedgerError", "InvalidNumber", "InvalidGoods", "InvalidConditions", "InvalidCondition", "InvalidPosition", "StateError", "DividedByZero", "OtherGoods", "LimitError", "TooMany", "LETTERS", "MOST_LETTERS", "NO_GOODS"]
def loose1 : List PySem.Str := ["is_integer", "is_count", "is_name", "is_good", "is_list", "is_among", "is_keyed_among", "is_triple", "is_number", "ratio_of", "ratios_of", "shared_bottom", "Ratio", "are_of_just", "MOST_GOODS", "MOST_CONDITIONS"]
def loose2 : List PySem.Str := ["_is_one_of", "_is_condition", "_check_goods", "_check_conditions", "Moves", "positions_broken", "is_move", "_is_implied", "needless", "lean", "_check_same_goods", "are_alike", "parting", "_move_apart", "_law_pot", "_law_draw"]
def loose3 : List PySem.Str := ["_law_pick", "_law_scene", "_law_tight", "_law_has_ring", "_law_keeps", "_law_is_needless", "_law_lean", "_law_are_alike", "_law_needless_right", "_law_does_keep", "_law_two_right", "_law_others", "_law_scene_of", "_law_right"]
def loose : List PySem.Str := loose0 ++ (loose1 ++ (loose2 ++ (loose3)))
theorem run (w : World) : HandSHeadRun.RunEqI RR qv (GL.hookM es fs) (GL.obM es fs) 9000 loose w := by
  unfold HandSHeadRun.RunEqI
  kernel_rfl
end KM
open PySem PySem.W PySem.Calls PyProof.Rows
theorem PySem.Challenge.cw_lateledger_k53_whole_needless_and_alike_holds : PySem.Challenge.rw_lateledger_k53_whole_needless_and_alike.Holds := by
  w_on; o_law
  refine HandSHeadRun.head_imp (r := OpenLaw.row PySem.Challenge.rw_lateledger_k53_whole_needless_and_alike) (q := KM.qv) (H := GL.hookM KM.es KM.fs) (ob := GL.obM KM.es KM.fs) (M := 9000) (loose := KM.loose) (d := HandSHeadRun.topDef (OpenLaw.row PySem.Challenge.rw_lateledger_k53_whole_needless_and_alike).prog 70) (kwd := []) (GL.obM_eq KM.es KM.fs)
    KM.run (by kernel_rfl) (by kernel_rfl) (by kernel_rfl) (by rfl) (by first | assumption | decide +kernel) (by decide +kernel) ⟨rfl, rfl, rfl, rfl, rfl, by decide +kernel⟩ ?hw ?hc
  case hw => w_witness2
  case hc =>
    refine GL.walk_gE (l := PySem.Challenge.rw_lateledger_k53_whole_needless_and_alike) (n := 63) (k := 11) (x := "_law_script") (sp := KM.spLaw) rfl (by decide) (by kernel_rfl) ⟨rfl, by decide, by decide⟩ ?F (fun _ _ a zs _ hS => ⟨a, zs, rfl, hS, fun _ => rfl⟩)
    intro w mg fa h Y G hmg0
    obtain ⟨K, KX, c⟩ := Y
    have hmg : mg ("law" : PySem.Str) = some (.ref fa) := by
      have e : (HandSHeadRun.topDef (OpenLaw.row PySem.Challenge.rw_lateledger_k53_whole_needless_and_alike).prog 70).name = ("law" : PySem.Str) := by kernel_rfl
      rw [← e]
      exact hmg0
    obtain ⟨fd, hb, hF⟩ := KM.facts (P := (PySem.Challenge.rw_lateledger_k53_whole_needless_and_alike).prog) (w := w) KX G hmg c
    exact ⟨K, fd, KX, hb, hF⟩
#print axioms PySem.Challenge.cw_lateledger_k53_whole_needless_and_alike_holds

