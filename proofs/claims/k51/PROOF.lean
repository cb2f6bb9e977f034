import PyProof.Rows.All
import Wide.All
import OpenK.AllK
import Wide.FinOn
import PyProof.EqAt
import PyProof.EqKinds
import PyProof.TupleCall
import KE.KOpsOwn
import HandS.ForMost
import HandS.WideBits
import HandS.Wide
import HandS.Defaults
import HandS.MakeKw
import HandS.FStr
import HandS.Style
import HandS.NoneIn
import PyProof.InstNe
import HandS.Walk
import HandS.Ends
import HandS.More
import HandS.IsInst
import HandS.Text
import KE.GoesEnum
import KE.GoesMore
import HandS.Star
import PySem.Challenge.RW_lateledger_k51_moves_told
set_option Elab.async false
set_option linter.all false
set_option maxRecDepth 100000
set_option maxHeartbeats 2000000
/-! A def's promise that is kept where no repr is under way: calls, bodies, own operators by it. -/
namespace GL
open PySem PySem.Spec PyProof.Rows L2

/-- no guard is up -/
def Clr (A : Around) : Prop := A.guards = some []

theorem Clr.down {A : Around} (g : Clr A) (env : Env) : Clr (A.deeper env) := g
theorem Clr.in1 {A : Around} (g : Clr A) : Clr A.in1 := g
theorem Clr.mk {A : Around} (g : Clr A) (C : Addr) (us : List Value) (kw : List (Str × Value)) :
    Clr (A.under (.builtin "type.__call__" ⟨.ref C :: us, kw⟩)) := by
  have e : (Code.builtin "type.__call__" ⟨.ref C :: us, kw⟩).guards = [] := by
    unfold Code.guards
    rw [if_neg]
    intro h
    exact absurd h (by simp [Code.isGuard, guardIds])
  have z : pushGuards (Code.builtin "type.__call__" ⟨.ref C :: us, kw⟩).guards A.guards = some [] := by rw [e]; exact g
  exact z

structure FnG (P : Program) (w : World) (K : PySem.W.Frag) (mg : Str → Option Value) (base : Heap)
    (CX : CXT) (k : Nat) (f : Addr) (fd : FuncData) (ps : List Str) (sp : Sp) : Prop where
  many : ∀ vs H Q E, sp vs H Q E → vs.length = ps.length
  go : ∀ (A : Around) (out : List Env) (s : Shared) (H : Hp) (args : Args) (us : List Value) (vs : List V) (Q : VK) (E : XK),
    Clr A → Room k A → Env0 P w K mg base A out s H → BindsTo s fd args (ps.zip us) → Vals vs us → sp vs H Q E →
    codeAny (model P w) A (.call (.ref f) args) (CR CX out P w H s Q E) s

theorem FnG.of {P w K mg base CX k f fd ps sp} (F : FnOk P w K mg base CX k f fd ps sp) :
    FnG P w K mg base CX k f fd ps sp :=
  ⟨F.len, fun A out s H args us vs Q E _ => F.run A out s H args us vs Q E⟩
theorem FnG.up {P w K mg base CX j k f fd ps sp} (F : FnG P w K mg base CX j f fd ps sp) (h : j ≤ k) :
    FnG P w K mg base CX k f fd ps sp :=
  ⟨F.many, fun A out s H args us vs Q E g hr => F.go A out s H args us vs Q E g (hr.mono h)⟩
theorem FnG.imp {P w K mg base CX k f fd ps sp sp'} (F : FnG P w K mg base CX k f fd ps sp)
    (h : ∀ vs H Q E, sp' vs H Q E → sp vs H Q E) : FnG P w K mg base CX k f fd ps sp' :=
  ⟨fun vs H Q E q => F.many _ _ _ _ (h _ _ _ _ q), fun A out s H args us vs Q E g hr e b r q => F.go A out s H args us vs Q E g hr e b r (h _ _ _ _ q)⟩

section
variable {X : Cx} {CX : CXT} {k : Nat} {f C : Addr} {fd : FuncData} {ps ks : List Str} {sp : Sp} {dvs : List V}
  {ds : List Value} {E : XK}

/-- the end of a call, for the caller -/
theorem back {pins : List (Addr × Obj)} {σ : L2.St} {H : Hp} {s : Shared} {Q : VK} (hx : Passes CX X E) (I : L2.Inv X pins σ H s)
    (r : Result) (s' : Shared) (hq : CR CX X.stack X.prog X.w H s Q E r s') :
    wants (EP X pins σ Q) X.xe r s' := by
  match r, hq with
  | .error e, hq => exact hx pins σ H s e s' I hq
  | .ok (.ret u), hq => exact I.after hq

/-- the callee runs, somewhere below the body where no guard is up -/
theorem run_at {n : Nat} {g1 : List Value → List Value → List Value} {gV : List V → List V → List V} {A : Around} {pins : List (Addr × Obj)}
    {σ : L2.St} {H : Hp} {s : Shared} {Q : VK} {us ws : List Value} {vs zs : List V}
    (g : Clr A) (hr : Room k A) (fr : A.frames = X.A.frames) (F : FnG X.prog X.w X.K X.mg X.base CX k f fd ps sp)
    (hb : KBn X.K fd ps n ks g1 gV) (hx : Passes CX X E) (I : L2.Inv X pins σ H s) (r : Vals vs us) (rz : Vals zs ws)
    (l1 : vs.length = n) (l2 : zs.length = ks.length) (h : sp (gV vs zs) H Q E) :
    wpAny (model X.prog X.w) A (call (.ref f) us (ks.zip ws)) (EP X pins σ Q) X.xe s := by
  have e0 := I.env0
  have e1 : Env0 X.prog X.w X.K X.mg X.base A X.stack s H := ⟨fr.trans e0.frames, e0.mod, e0.bs, e0.bsz, e0.funs, e0.frf, e0.hok, e0.bare⟩
  exact wpAny_call (codeAny_mono (F.go A X.stack s H ⟨us, ks.zip ws⟩ (g1 us ws) (gV vs zs) Q E g hr e1
    (hb.to s us ws I.kIn (r.length.symm.trans l1) (rz.length.symm.trans l2)) (hb.rel r rz) h) (back hx I))
end

/-! what a call's reading asks: the values, the keywords' values, how many there are, the promise -/
def tGo (n m : Nat) (sp : Sp) (gV : List V → List V → List V) (E : XK) (t tk : TA) : TE := fun σ H Q =>
  t σ H fun vs H1 => tk σ H1 fun zs H2 => vs.length = n ∧ zs.length = m ∧ sp (gV vs zs) H2 Q E
def tGoM (C : Addr) (nm : Str) (n m : Nat) (sp : Sp) (gV : List V → List V → List V) (E : XK) (ta : TE) (t tk : TA) : TE := fun σ H Q =>
  ta σ H fun x H1 => ∃ a dx fs, x = .ref a ∧ H1 a = some (.ins C dx fs) ∧ fs.lookup nm = none ∧
    t σ H1 fun vs H2 => tk σ H2 fun zs H3 => vs.length = n ∧ zs.length = m ∧ sp (gV (.ref a :: vs) zs) H3 Q E
def tNew (C : Addr) (n m : Nat) (sp : Sp) (gV : List V → List V → List V) (E : XK) (t tk : TA) : TE := fun σ H Q =>
  t σ H fun vs H1 => tk σ H1 fun zs H2 => vs.length = n ∧ zs.length = m ∧ ∀ x dx, H2 x = none → H2 dx = none → dx ≠ x →
    sp (gV (.ref x :: vs) zs) (upd (upd H2 dx (.own x)) x (.ins C dx [])) (fun v H3 => v = .non ∧ Q (.ref x) H3) E

section
variable {X : Cx} {CX : CXT} {k n : Nat} {f C : Addr} {fd : FuncData} {ps ks : List Str} {sp : Sp} {E : XK} {x m : Str} {p pos apos : Pos}
  {e o : Expr} {es : List Expr} {kws : List Keyword} {ta : TE} {t tk : TA} {g1 : List Value → List Value → List Value} {gV : List V → List V → List V}

/-- f(e, ..; k = v, ..) -/
theorem pe_go (g : Clr X.A) (F : FnG X.prog X.w X.K X.mg X.base CX k f fd ps sp) (hr : Room k X.A) (hg : Gl X x) (hm : X.mg x = some (.ref f))
    (hk : PySem.W.keepIn X.K (.ref f) = true) (hb : KBn X.K fd ps n ks g1 gV) (hx : Passes CX X E) (ha : PA X (e :: es) t) (hw : PK X kws tk)
    (hall : (backToKw pos (keywordEach kws X.env)).all (·.1.isSome) = true := by rfl)
    (hks : (backToKw pos (keywordEach kws X.env)).filterMap (·.1) = ks := by rfl)
    (hdb : (x == ("__debug__" : Str)) = false := by decide)
    (he : starEach (e :: es) X.env = (false, eval e X.env) :: starEach es X.env := by rfl)
    (hpl : ((backTo pos (starEach (e :: es) X.env)).any (·.1) || (backToKw pos (keywordEach kws X.env)).any (·.1.isNone)) = false := by rfl) :
    PE X (.Call (.Name x p) (e :: es) kws pos) (tGo n ks.length sp gV E t tk) := by
  constructor
  intro pins s σ H Q I h
  apply wpAny_Call_Name_kw
  refine ld_glob I hg hm ?_ hdb
  refine PySem.W.callWith_KW (h₀ := X.base) I.ok.mod.kin hk hall (thn (ha.run pos pins s σ H _ I h) ?_) hpl he
  rintro us s1 ⟨vs, H1, I1, r, q⟩
  refine thn (hw.run pos pins s1 σ H1 _ I1 q) ?_
  rintro ws s2 ⟨zs, H2, I2, rz, l1, l2, q2⟩
  rw [hks]
  exact ⟨I2.kIn, run_at g hr rfl F hb hx I2 r rz l1 l2 q2⟩

/-- o.m(e, ..; k = v, ..) -/
theorem pe_goM {pl : Sem Bool} (g : Clr X.A) (he : PE X o ta) (c : Cls X.K C) (hm : Meth X.K C m f) (F : FnG X.prog X.w X.K X.mg X.base CX k f fd ps sp)
    (hr : Room k X.A) (hb : KBn X.K fd ps (n + 1) ks g1 gV) (hx : Passes CX X E) (ha : PA X (e :: es) t) (hw : PK X kws tk)
    (hall : (backToKw pos (keywordEach kws X.env)).all (·.1.isSome) = true := by rfl)
    (hks : (backToKw pos (keywordEach kws X.env)).filterMap (·.1) = ks := by rfl)
    (hst : starEach (e :: es) X.env = (false, eval e X.env) :: starEach es X.env := by rfl)
    (hpl : ((backTo pos (starEach (e :: es) X.env)).any (·.1) || (backToKw pos (keywordEach kws X.env)).any (·.1.isNone)) = false := by rfl)
    (ht : eval (.Call (.Attribute o m apos) (e :: es) kws pos) X.env = (do
      let ov ← eval o X.env
      standAt apos.atName
      let (f, first) ← holding [ov] (getMethod ov m pl)
      callWith pos f first (backTo pos (starEach (e :: es) X.env)) (backToKw pos (keywordEach kws X.env))) := by rfl) :
    PE X (.Call (.Attribute o m apos) (e :: es) kws pos) (tGoM C m n ks.length sp gV E ta t tk) := by
  constructor
  intro pins s σ H Q I h
  refine PySem.W.methodCall_KW (pl := pl) (thn (he.run pins s σ H _ I h) ?_) ht
  rintro u s1 ⟨x, H1, I1, rx, a, dx, fs, rfl, ea, l, q⟩
  obtain rfl : u = Value.ref a := rx
  refine getmeth_ok I1 ea c hm l ?_
  refine PySem.W.callWith_KW (first := [.ref a]) (h₀ := X.base) I.ok.mod.kin hm.kp hall (thn (ha.run pos pins s1 σ H1 _ I1 q) ?_) hpl hst
  rintro us s2 ⟨vs, H2, I2, r, q2⟩
  refine thn (hw.run pos pins s2 σ H2 _ I2 q2) ?_
  rintro ws s3 ⟨zs, H3, I3, rz, l1, l2, q3⟩
  rw [hks]
  exact ⟨I3.kIn, run_at (us := .ref a :: us) (vs := .ref a :: vs) g hr rfl F hb hx I3 (.cons rfl r) rz (congrArg Nat.succ l1) l2 q3⟩

/-- o.m(k = v, ..), o.m() -/
theorem pe_goM0 {pl : Sem Bool} (g : Clr X.A) (he : PE X o ta) (c : Cls X.K C) (hm : Meth X.K C m f) (F : FnG X.prog X.w X.K X.mg X.base CX k f fd ps sp)
    (hr : Room k X.A) (hb : KBn X.K fd ps 1 ks g1 gV) (hx : Passes CX X E) (hw : PK X kws tk)
    (hall : (backToKw pos (keywordEach kws X.env)).all (·.1.isSome) = true := by rfl)
    (hks : (backToKw pos (keywordEach kws X.env)).filterMap (·.1) = ks := by rfl)
    (hpl : ((backTo pos (starEach [] X.env)).any (·.1) || (backToKw pos (keywordEach kws X.env)).any (·.1.isNone)) = false := by rfl)
    (ht : eval (.Call (.Attribute o m apos) [] kws pos) X.env = (do
      let ov ← eval o X.env
      standAt apos.atName
      let (f, first) ← holding [ov] (getMethod ov m pl)
      callWith pos f first (backTo pos (starEach [] X.env)) (backToKw pos (keywordEach kws X.env))) := by rfl) :
    PE X (.Call (.Attribute o m apos) [] kws pos) (tGoM C m 0 ks.length sp gV E ta tNil tk) := by
  constructor
  intro pins s σ H Q I h
  refine PySem.W.methodCall_KW (pl := pl) (thn (he.run pins s σ H _ I h) ?_) ht
  rintro u s1 ⟨x, H1, I1, rx, a, dx, fs, rfl, ea, l, q⟩
  obtain rfl : u = Value.ref a := rx
  refine getmeth_ok I1 ea c hm l ?_
  refine PySem.W.callWith_KW0 (first := [.ref a]) (h₀ := X.base) I.ok.mod.kin hm.kp hall ?_ hpl
  refine thn (hw.run pos pins s1 σ H1 _ I1 q) ?_
  rintro ws s3 ⟨zs, H3, I3, rz, l1, l2, q3⟩
  rw [hks]
  exact ⟨I3.kIn, run_at (us := [.ref a]) (vs := [.ref a]) g hr rfl F hb hx I3 (.cons rfl .nil) rz rfl l2 q3⟩

theorem run_new {pins : List (Addr × Obj)} {σ : L2.St} {H : Hp} {s : Shared} {Q : VK} {us ws : List Value} {vs zs : List V}
    (g : Clr X.A) (M : Mk X.K C f) (F : FnG X.prog X.w X.K X.mg X.base CX k f fd ps sp) (hr : Room (k + 1) X.A) (hb : KBn X.K fd ps (n + 1) ks g1 gV)
    (hx : Passes CX X E) (I : L2.Inv X pins σ H s) (r : Vals vs us) (rz : Vals zs ws) (l1 : vs.length = n) (l2 : zs.length = ks.length)
    (h : ∀ x dx, H x = none → H dx = none → dx ≠ x →
      sp (gV (.ref x :: vs) zs) (upd (upd H dx (.own x)) x (.ins C dx [])) (fun v H2 => v = .non ∧ Q (.ref x) H2) E) :
    wpAny (model X.prog X.w) X.A (call (.ref C) us (ks.zip ws)) (EP X pins σ Q) X.xe s := by
  have hd := I.hok.fresh (Nat.le_refl s.heap.objs.size)
  have hi := I.hok.fresh (Nat.le_succ s.heap.objs.size)
  have hq := h _ _ hi hd (Nat.ne_of_lt (Nat.lt_succ_self s.heap.objs.size))
  have I2 := Inv.made (C := C) I
  have r1 : Vals (V.ref (s.heap.objs.size + 1) :: vs) (Value.ref (s.heap.objs.size + 1) :: us) := .cons rfl r
  have n1 : (Value.ref (s.heap.objs.size + 1) :: us).length = n + 1 := r1.length.symm.trans (congrArg Nat.succ l1)
  have c := F.go _ X.stack _ _ ⟨Value.ref (s.heap.objs.size + 1) :: us, ks.zip ws⟩ _ _ _ E (g.mk C us (ks.zip ws)) (hr.make C us (ks.zip ws))
    (I2.env0.make C us (ks.zip ws)) (hb.to _ _ ws I2.kIn n1 (rz.length.symm.trans l2)) (hb.rel r1 rz) hq
  refine wpAny_call (make_map (f := f) I.kIn M.makes M.init (beq_iff_eq.mp M.fn) (codeAny_mono c ?_))
  intro rr s' hq'
  match rr, hq' with
  | .error er, hq' => exact hx pins σ _ _ er s' I2 hq'
  | .ok (.ret u), hq' =>
    obtain ⟨v, H', I3, rv, rfl, q3⟩ := I2.after hq'
    exact ⟨rv, V.ref (s.heap.objs.size + 1), H', I3, rfl, q3⟩

/-- C(e, ..; k = v, ..) -/
theorem pe_new (g : Clr X.A) (M : Mk X.K C f) (F : FnG X.prog X.w X.K X.mg X.base CX k f fd ps sp) (hr : Room (k + 1) X.A) (hg : Gl X x)
    (hm : X.mg x = some (.ref C)) (hb : KBn X.K fd ps (n + 1) ks g1 gV) (hx : Passes CX X E) (ha : PA X (e :: es) t) (hw : PK X kws tk)
    (hall : (backToKw pos (keywordEach kws X.env)).all (·.1.isSome) = true := by rfl)
    (hks : (backToKw pos (keywordEach kws X.env)).filterMap (·.1) = ks := by rfl)
    (hdb : (x == ("__debug__" : Str)) = false := by decide)
    (he : starEach (e :: es) X.env = (false, eval e X.env) :: starEach es X.env := by rfl)
    (hpl : ((backTo pos (starEach (e :: es) X.env)).any (·.1) || (backToKw pos (keywordEach kws X.env)).any (·.1.isNone)) = false := by rfl) :
    PE X (.Call (.Name x p) (e :: es) kws pos) (tNew C n ks.length sp gV E t tk) := by
  constructor
  intro pins s σ H Q I h
  apply wpAny_Call_Name_kw
  refine ld_glob I hg hm ?_ hdb
  refine PySem.W.callWith_KW (h₀ := X.base) I.ok.mod.kin M.kp hall (thn (ha.run pos pins s σ H _ I h) ?_) hpl he
  rintro us s1 ⟨vs, H1, I1, r, q⟩
  refine thn (hw.run pos pins s1 σ H1 _ I1 q) ?_
  rintro ws s2 ⟨zs, H2, I2, rz, l1, l2, q2⟩
  rw [hks]
  exact ⟨I2.kIn, run_new g M F hr hb hx I2 r rz l1 l2 q2⟩
/-- C(k = v, ..), C() -/
theorem pe_new0 (g : Clr X.A) (M : Mk X.K C f) (F : FnG X.prog X.w X.K X.mg X.base CX k f fd ps sp) (hr : Room (k + 1) X.A) (hg : Gl X x)
    (hm : X.mg x = some (.ref C)) (hb : KBn X.K fd ps 1 ks g1 gV) (hx : Passes CX X E) (hw : PK X kws tk)
    (hall : (backToKw pos (keywordEach kws X.env)).all (·.1.isSome) = true := by rfl)
    (hks : (backToKw pos (keywordEach kws X.env)).filterMap (·.1) = ks := by rfl)
    (hdb : (x == ("__debug__" : Str)) = false := by decide)
    (hpl : ((backTo pos (starEach [] X.env)).any (·.1) || (backToKw pos (keywordEach kws X.env)).any (·.1.isNone)) = false := by rfl) :
    PE X (.Call (.Name x p) [] kws pos) (tNew C 0 ks.length sp gV E tNil tk) := by
  constructor
  intro pins s σ H Q I h
  apply wpAny_Call_Name_kw
  refine ld_glob I hg hm ?_ hdb
  refine PySem.W.callWith_KW0 (h₀ := X.base) I.ok.mod.kin M.kp hall ?_ hpl
  refine thn (hw.run pos pins s σ H _ I h) ?_
  rintro ws s2 ⟨zs, H2, I2, rz, l1, l2, q2⟩
  rw [hks]
  exact ⟨I2.kIn, run_new (us := []) (vs := []) g M F hr hb hx I2 .nil rz rfl l2 q2⟩
end

/-- a def of the text by its body; no guard is up at its entry -/
theorem body_g {CX : CXT} {P : Program} {w : World} {K : PySem.W.Frag} {mg : Str → Option Value} {base : Heap} {k : Nat} {f : Addr} {name qual : Str}
    {params : Arguments} {body : List Stmt} {scope : Scope} {dV kV doc pm cdv ct oc : Value} {an od : Option Addr} {osl : Array (Option Value)}
    {N ps : List Str} {sp : Sp} (lk : K.lookup f = some ⟨oc, od, .func (PySem.W.fnOf name qual params body scope dV kV doc pm an cdv ct), osl⟩)
    (hcd : PySem.W.codeIn K cdv qual = true) (S : FnScope N ps scope) (many : ∀ vs H Q E, sp vs H Q E → vs.length = ps.length)
    (hbody : ∀ (A : Around) (out : List Env) (s : Shared) (H : Hp) (vs : List V) (Q : VK) (E : XK),
      Clr (A.deeper (envOfC qual scope s.heap.objs.size f cdv)) → Room k (A.deeper (envOfC qual scope s.heap.objs.size f cdv)) → sp vs H Q E →
      ∃ t, PSs (cxOf CX P w K mg base N qual scope f cdv A out s H E) body t ∧ t { nx := fun _ H' => Q .non H', rt := Q } (start N vs) H) :
    FnG P w K mg base CX (k + 1) f (PySem.W.fnOf name qual params body scope dV kV doc pm an cdv ct) ps sp := by
  constructor
  · exact many
  intro A out s H args us vs Q E g hr e0 hb r hsp
  have old : ∀ b ob, base.get? b = some ob → s.heap.get? b = some ob := fun b ob z => (e0.bs b ob z).1
  have KX : K.In s.heap := e0.mod.kin.keeps old
  have kinds : ∀ y ∈ ps.zip us, scope.names.lookup y.1 = some .local ∨
      (scope.names.lookup y.1 = some .cell ∧ ((cellsFrom (s.heap.objs.size + 1) scope.names []).lookup y.1).isSome = true) := by
    rintro ⟨nm, v⟩ hy
    exact (S.par nm (List.of_mem_zip hy).1).imp id fun q => ⟨q, PySem.W.cellsFrom_some _ _ _ (.inl q)⟩
  refine codeAny_call_function hr.depth (KX _ _ lk) rfl S.co S.gen rfl (PySem.W.codeRec_of KX hcd) (hb _ _ _ _ ?_)
  refine wpAny_newFunctionEnv_cells S.kind kinds ?_
  rintro env rfl s1 x
  refine ⟨(e0.mod.nolimit.keeps old).keeps x.toInCall.keep, codeAny_func ?_⟩
  obtain ⟨t, ht, hq⟩ := hbody A out s H vs Q E (g.down _) (hr.deeper _) hsp
  have I := inv_start (CX := CX) (E := E) S hr.hd e0 (many _ _ _ _ hsp) r x
  refine wpAny_mono (ht.run [] s1 (start N vs) H _ I hq) ?_ fun er s' z => z
  intro fl s' hs
  have fin : ∀ {σ' : L2.St} {H' : Hp} {v : V} {u : Value}, L2.Inv (cxOf CX P w K mg base N qual scope f cdv A out s H E) [] σ' H' s' → RelV v u → Q v H' →
      CE out P w H s Q u s' := fun J rv q => ⟨_, _, J.os, J.bare, J.base, J.hok, rv, q⟩
  cases fl
  case ret u =>
    rcases hs with ⟨v, σ2, H2, J, rv, q⟩
    exact fin J rv q
  case next =>
    rcases hs with ⟨σ2, H2, J, q⟩
    exact fin (v := .non) (u := .none) J rfl q
  case brk => exact hs.choose_spec.choose_spec.2.elim
  case cont => exact hs.choose_spec.choose_spec.2.elim
end GL

set_option Elab.async false
set_option linter.all false
set_option maxRecDepth 100000
set_option maxHeartbeats 2000000
namespace GL
open PySem PySem.Spec PyProof.Rows L2

/-- a thing of data that is shown: what repr tells of it -/
structure Shows (d : PyData) : Prop where
  ok : d.showable = true
  nd : d.hasDict = false
  fit : d.shown.length ≤ sizeLine
  low : d.depth ≤ 8

def rReprD (K : PySem.W.Frag) : List V → Hp → VK → Prop := fun xs H Q =>
  ∃ a d, xs = [.ref a] ∧ Dp K H (.ref a) d ∧ Shows d ∧ Q (.str d.shown) H
/-- {x!r}, x data -/
def tFmtD (K : PySem.W.Frag) (te : TE) : TE := fun σ H Q => te σ H fun x H1 => ∃ a d, x = .ref a ∧ Dp K H1 (.ref a) d ∧ Shows d ∧ Q (.str d.shown) H1

section
variable {X : Cx} {k : Nat}
theorem call_repr_D (g : Clr X.A) (hu : X.A.units + 64 < cLine) : CallR X (.builtin "repr") (rReprD X.K) := by
  intro pins s σ H vs us Q I r h
  obtain ⟨a, d, rfl, D, W, q⟩ := h
  cases r with
  | cons r1 r2 =>
    cases r2
    cases r1
    obtain ⟨as, z⟩ := Dp.reads I d (.ref a) (.ref a) D rfl
    refine repr_of_reads' z W.ok (PyData.noDict_hsm W.nd) g ?_ (fun _ _ e => e) ?_ W.fit
    · have := W.low; omega
    · intro h' u tk hk
      exact ⟨.str d.shown, H, I.kept hk, ⟨u, rfl⟩, q⟩
theorem pe_fmtD {e : Expr} {te : TE} {pos : Pos} (g : Clr X.A) (hu : X.A.units + 64 < cLine) (he : PE X e te) :
    PE X (.FormattedValue e 114 none pos) (tFmtD X.K te) := by
  constructor
  intro pins s σ H Q I h
  apply wpAny_FormattedValue_repr
  refine thn (he.run pins s σ H _ I h) ?_
  rintro v s1 ⟨x, H1, I1, r1, a, d, rfl, D, W, q⟩
  cases r1
  obtain ⟨as, z⟩ := Dp.reads I1 d (.ref a) (.ref a) D rfl
  refine pyReprObj_of_reads z W.ok (PyData.noDict_hsm W.nd) g (by have := W.low; omega) (fun _ _ e => e) ?_ W.fit
  intro h' u tk hk
  refine wpAny_formatField_str ?_ ?_ W.fit
  · exact ⟨.str d.shown, H1, I1.kept hk, ⟨_, rfl⟩, q⟩
  · exact ⟨.str d.shown, H1, I1.kept hk, ⟨_, rfl⟩, q⟩
end

/-! ### own operators -/
section
variable {X : Cx} {CX : CXT} {k n : Nat} {f C : Addr} {fd : FuncData} {ps : List Str} {sp : Sp} {E : XK}
  {g1 : List Value → List Value → List Value} {gV : List V → List V → List V}

/-- the own def of an operator, its promise at the two (or one) values -/
structure Own (X : Cx) (CX : CXT) (k : Nat) (C : Addr) (nm : Str) (f : Addr) (fd : FuncData) (ps : List Str) (sp : Sp) (n : Nat) (E : XK) : Prop where
  F : FnG X.prog X.w X.K X.mg X.base CX k f fd ps sp
  at_ : PySem.W.findIn X.K (.ref C) nm = some (some (.ref f))
  fn : PySem.W.isFn X.K (.ref f) = true
  bd : KBn X.K fd ps n [] (fun us _ => us) (fun vs _ => vs)
  ps_ : Passes CX X E

/-- the instance, for the library's rules -/
theorem inst {pins : List (Addr × Obj)} {σ : L2.St} {H : Hp} {s : Shared} {a dx : Addr} {fs : List (Str × V)} (I : L2.Inv X pins σ H s)
    (e : H a = some (.ins C dx fs)) : ∃ ox od, PySem.W.InstAt s.heap a ox C od := by
  obtain ⟨mA, O, _⟩ := ins_get I.hok e
  obtain ⟨od, J, _⟩ := O.look
  exact ⟨_, _, J⟩

def rLenO (C : Addr) (sp : Sp) (E : XK) : List V → Hp → VK → Prop := fun xs H Q =>
  ∃ a dx fs, xs = [.ref a] ∧ H a = some (.ins C dx fs) ∧ sp [.ref a] H (fun v H1 => ∃ n : Int, v = .int n ∧ 0 ≤ n ∧ n < 2 ^ 63 ∧ Q (.int n) H1) E
theorem call_len_O (g : Clr X.A) (hr : Room (k + 1) X.A) (W : Own X CX k C "__len__" f fd ps sp 1 E) : CallR X (.builtin "len") (rLenO C sp E) := by
  intro pins s σ H vs us Q I r h
  obtain ⟨a, dx, fs, rfl, ea, h⟩ := h
  cases r with
  | cons r1 r2 =>
    cases r2
    cases r1
    obtain ⟨ox, od, J⟩ := inst I ea
    obtain ⟨m, hF⟩ := I.fr
    refine PySem.W.len_K hF I.ok.mod.kin J W.at_ W.fn ?_
    refine wpAny_mono (run_at (us := [.ref a]) (vs := [.ref a]) (ws := []) (zs := []) g.in1 hr.in1 rfl W.F W.bd W.ps_ I (.cons rfl .nil) .nil rfl rfl h) ?_ fun _ _ z => z
    rintro u s' ⟨v, H1, I1, rv, n, rfl, h0, h1, q⟩
    obtain ⟨t, rfl⟩ := rv
    exact ⟨⟨h0, h1⟩, .int n, H1, I1.tok _, ⟨_, rfl⟩, q⟩

def rReprO (C : Addr) (sp : Sp) (E : XK) : List V → Hp → VK → Prop := fun xs H Q =>
  ∃ a dx fs, xs = [.ref a] ∧ H a = some (.ins C dx fs) ∧ sp [.ref a] H (fun v H1 => ∃ z : Str, v = .str z ∧ Q (.str z) H1) E
theorem call_repr_O (g : Clr X.A) (hr : Room (k + 1) X.A) (W : Own X CX k C "__repr__" f fd ps sp 1 E) : CallR X (.builtin "repr") (rReprO C sp E) := by
  intro pins s σ H vs us Q I r h
  obtain ⟨a, dx, fs, rfl, ea, h⟩ := h
  cases r with
  | cons r1 r2 =>
    cases r2
    cases r1
    obtain ⟨ox, od, J⟩ := inst I ea
    obtain ⟨m, hF⟩ := I.fr
    refine PySem.W.repr_K (by have := hr.un; show X.A.units + 1 < cLine; omega) hF I.ok.mod.kin J W.at_ W.fn ?_
    refine wpAny_mono (run_at (us := [.ref a]) (vs := [.ref a]) (ws := []) (zs := []) g.in1 hr.in1 rfl W.F W.bd W.ps_ I (.cons rfl .nil) .nil rfl rfl h) ?_ fun _ _ z => z
    rintro u s' ⟨v, H1, I1, rv, y, rfl, q⟩
    obtain ⟨t, rfl⟩ := rv
    exact ⟨.str y, H1, I1, ⟨_, rfl⟩, q⟩

/-- what is on the right of an own ==: its type is told, and is no class below the left one's -/
def RightOf (K : PySem.W.Frag) (C : Addr) (H : Hp) (y : V) : Prop :=
  (∃ a dx fs, y = .ref a ∧ H a = some (.ins C dx fs)) ∨ (∃ a xs, y = .ref a ∧ (SqL K H a xs ∨ SqT K H a xs)) ∨ y = .non ∨ (∃ i, y = .int i) ∨ (∃ z, y = .str z)
structure Below (K : PySem.W.Frag) (C : Addr) : Prop where
  l : PySem.W.subIn K (.type "list") (.ref C) = some false
  t : PySem.W.subIn K (.type "tuple") (.ref C) = some false
  n : PySem.W.subIn K (.type "NoneType") (.ref C) = some false
  i : PySem.W.subIn K (.type "int") (.ref C) = some false
  s : PySem.W.subIn K (.type "str") (.ref C) = some false

theorem look_type {M : Model} {h : Heap} {a : Addr} {o : Obj} (e : h.get? a = some o) : PySem.W.Looks M h (typeOf (.ref a)) o.cls := (PySem.W.Looks.ld e).andThen .now
theorem right_type {pins : List (Addr × Obj)} {σ : L2.St} {H : Hp} {s : Shared} {y : V} {u : Value} (I : L2.Inv X pins σ H s) (B : Below X.K C)
    (r : L2.RelV y u) (h : RightOf X.K C H y) : ∃ tb, (∀ M, PySem.W.Looks M s.heap (typeOf u) tb) ∧ PySem.W.notFirst X.K C tb = true := by
  rcases h with ⟨a, dx, fs, rfl, ea⟩ | ⟨a, xs, rfl, hl | ht⟩ | rfl | ⟨i, rfl⟩ | ⟨z, rfl⟩
  · cases r
    obtain ⟨mA, O, _⟩ := ins_get I.hok ea
    obtain ⟨od, J, _⟩ := O.look
    exact ⟨.ref C, fun M => J.type, by simp [PySem.W.notFirst]⟩
  · cases r
    obtain ⟨its, _, ⟨o, nn, ho, hc, _⟩, _⟩ := I.list hl
    exact ⟨.type "list", fun M => hc ▸ look_type ho, by simp [PySem.W.notFirst, B.l]⟩
  · cases r
    obtain ⟨its, _, ⟨o, ho, hc, _⟩, _⟩ := I.tuple ht
    exact ⟨.type "tuple", fun M => hc ▸ look_type ho, by simp [PySem.W.notFirst, B.t]⟩
  · cases r
    exact ⟨.type "NoneType", fun M => .of_pure rfl, by simp [PySem.W.notFirst, B.n]⟩
  · obtain ⟨t, rfl⟩ := r
    exact ⟨.type "int", fun M => .of_pure rfl, by simp [PySem.W.notFirst, B.i]⟩
  · obtain ⟨t, rfl⟩ := r
    exact ⟨.type "str", fun M => .of_pure rfl, by simp [PySem.W.notFirst, B.s]⟩

/-- x == y, x an instance with an own == -/
def rEqO (K : PySem.W.Frag) (C : Addr) (sp : Sp) (E : XK) : R2 := fun x y H Q =>
  ∃ a dx fs, x = .ref a ∧ H a = some (.ins C dx fs) ∧ RightOf K C H y ∧ sp [.ref a, y] H (fun v H1 => ∃ b, v = .bl b ∧ Q (.bl b) H1) E
theorem op_eq_O (g : Clr X.A) (hr : Room k X.A) (W : Own X CX k C "__eq__" f fd ps sp 2 E) (B : Below X.K C) : OpR X (compareOp .Eq) (rEqO X.K C sp E) := by
  intro pins s σ H x y v u Q I rx ry h
  obtain ⟨a, dx, fs, rfl, ea, ho, h⟩ := h
  cases rx
  obtain ⟨ox, od, J⟩ := inst I ea
  obtain ⟨m, hF⟩ := I.fr
  obtain ⟨tb, ht, hn⟩ := right_type I B ry ho
  show wpAny (model X.prog X.w) X.A (richCompare .Eq (.ref a) u) (EP X pins σ Q) X.xe s
  refine PySem.W.cmp_K (op := .Eq) (tb := tb) hr.units0 hF I.ok.mod.kin J (ht _) hn W.at_ W.fn ?_
  refine wpAny_mono (run_at (us := [.ref a, u]) (vs := [.ref a, y]) (ws := []) (zs := []) g hr rfl W.F W.bd W.ps_ I (.cons rfl (.cons ry .nil)) .nil rfl rfl h) ?_ fun _ _ z => z
  rintro w' s' ⟨z, H1, I1, rz, b, rfl, q⟩
  cases rz
  exact ⟨.bl b, H1, I1, rfl, q⟩

/-- what the top tells of a class with an own == and the != of all objects -/
structure EqC (K : PySem.W.Frag) (C f N : Addr) : Prop where
  obj : ∃ nm q bs hd sn sub ab col dd k0 k1 k2 k3 k5 id, K.lookup C = some (excClassObj nm q C N bs [.type "object"] hd sn sub ab col dd k0 k1 k2 k3 k5 id)
  ok : PySem.W.nsOkIn K N = true
  eq : PySem.W.nsIn K N "__eq__" = some (some (.ref f))
  ne : PySem.W.nsIn K N "__ne__" = some none
  fn : PySem.W.typeIn K (.ref f) = some (.type "function")
theorem ns_some {K : PySem.W.Frag} {h : Heap} {N : Addr} {mN : Str → Option Value} {x : Str} {v : Value} (KX : K.In h) (G : h.Ns N mN)
    (e : PySem.W.nsIn K N x = some (some v)) : mN x = some v := by
  obtain ⟨o, es, ep, ho, hd, _, hf⟩ := G
  unfold PySem.W.nsIn at e
  cases q : K.lookup N with
  | none => rw [q] at e; cases e
  | some o2 =>
    have z := (KX _ _ q).symm.trans ho
    cases z
    obtain ⟨c, d, data, sl⟩ := o
    dsimp only at hd
    subst hd
    rw [q] at e
    dsimp only at e
    rw [← hf]
    show findBy _ es x = some v
    unfold findBy
    rw [← Array.find?_toList]
    cases w : es.toList.find? (·.key.isStr x) with
    | none =>
      rw [w] at e
      dsimp only at e
      split at e <;> cases e
    | some en =>
      rw [w] at e
      cases e
      rfl
theorem EqC.there {K : PySem.W.Frag} {h : Heap} {C f N x : Addr} {o : Obj} (W : EqC K C f N) (KX : K.In h) (hx : h.get? x = some o) (hc : o.cls = .ref C) :
    h.OwnEqNoNe x C f "object" [.type "object"] := by
  obtain ⟨nm, q, bs, hd, sn, sub, ab, col, dd, k0, k1, k2, k3, k5, id, l⟩ := W.obj
  have G : h.Ns N (h.nsMap N) := .of_isNs (PySem.W.isNs_of_in KX W.ok)
  have tf := W.fn
  cases e : K.lookup f with
  | none => simp [PySem.W.typeIn, e] at tf
  | some of =>
    have tc : of.cls = .type "function" := by simpa [PySem.W.typeIn, e] using tf
    exact ⟨o, of, nm, q, N, bs, hd, sn, sub, ab, col, dd, k0, k1, k2, k3, k5, id, _, _, hx, hc, KX _ _ l, G, ns_some KX G W.eq, KX _ _ e, tc,
      PySem.F.cmp_object.mro, PySem.F.cmp_object.eq.lookup, PySem.W.ns_none_of KX G W.ne⟩

/-- x != y, two instances of one class with an own == -/
def rNeO (C : Addr) (sp : Sp) (E : XK) : R2 := fun x y H Q =>
  ∃ a dx fs b dy gs, x = .ref a ∧ y = .ref b ∧ H a = some (.ins C dx fs) ∧ H b = some (.ins C dy gs) ∧
    sp [.ref a, .ref b] H (fun v H1 => ∃ c, v = .bl c ∧ Q (.bl (!c)) H1) E
theorem op_ne_O {N : Addr} (g : Clr X.A) (hr : Room (k + 1) X.A) (W : Own X CX k C "__eq__" f fd ps sp 2 E) (T : EqC X.K C f N) :
    OpR X (compareOp .NotEq) (rNeO C sp E) := by
  intro pins s σ H x y v u Q I rx ry h
  obtain ⟨a, dx, fs, b, dy, gs, rfl, rfl, ea, eb, h⟩ := h
  cases rx
  cases ry
  obtain ⟨_, _, _, ha, _⟩ := I.hok a _ ea
  obtain ⟨_, _, _, hb, _⟩ := I.hok b _ eb
  have z := wpAny_mono (run_at (us := [.ref a, .ref b]) (vs := [.ref a, .ref b]) (ws := []) (zs := []) g.in1 hr.in1 rfl W.F W.bd W.ps_ I
    (.cons rfl (.cons rfl .nil)) .nil rfl rfl h) (Q' := fun w' s' => ∃ c, w' = .bool c ∧ EP X pins σ Q (.bool (!c)) s') ?_ fun _ _ z => z
  · have T' := T.there I.kIn ha rfl
    have hu : X.A.units + 1 < cLine := by have := hr.un; omega
    obtain ⟨hp, gg, d, t, os⟩ := s
    exact compareOp_ne_ownEq PySem.F.cmp_object T' hb rfl hu z
  · rintro w' s' ⟨z, H1, I1, rz, c, rfl, q⟩
    cases rz
    exact ⟨c, rfl, .bl (!c), H1, I1, rfl, q⟩

/-- x + y, x an instance with an own +, y a tuple -/
structure AddC (K : PySem.W.Frag) (C : Addr) : Prop where
  first : PySem.W.selfFirst K C = true
  no_r : PySem.W.findIn K (.ref C) (dunderR "add") = some none
  below : PySem.W.subIn K (.type "tuple") (.ref C) = some false
  t1 : PySem.W.findIn K (.type "tuple") (PySem.dunder "add") = some (some (.builtin "tuple.__add__"))
  t2 : PySem.W.findIn K (.type "tuple") (dunderR "add") = some none
theorem add_tuple {prog : Program} {w : World} {A : Around} {E' : Value → Shared → Prop} {s : Shared} {K : PySem.W.Frag} {x C L f : Addr} {h₀ : Heap} {m : Str → Option Value}
    {ox : Obj} {od : Option Obj} {b : Value} {Q : Value → Shared → Prop} (F : Fr h₀ L s.heap m) (X₀ : K.In h₀) (J : PySem.W.InstAt s.heap x ox C od)
    (hb : ∀ M, PySem.W.Looks M s.heap (typeOf b) (.type "tuple")) (T : AddC K C) (hs : PySem.W.findIn K (.ref C) (PySem.dunder "add") = some (some (.ref f)))
    (hf : PySem.W.isFn K (.ref f) = true) (h : wpAny (model prog w) A (call (.ref f) [.ref x, b]) (PySem.W.CmpBack Q) E' s) :
    wpAny (model prog w) A (binaryOp .Add (.ref x) b) Q E' s := by
  have KX := X₀.keeps F.keep
  obtain ⟨cd, rest, hcd, hm⟩ := PySem.W.ksp_first T.first
  have one := PySem.W.ksp_try KX J hs hf h
  obtain ⟨hh, gg, d, tt, os⟩ := s
  have A1 : PySem.W.Looks (model prog w) hh (typeOf (.ref x)) (.ref C) := J.type
  have A2 : PySem.W.Looks (model prog w) hh (typeOf b) (.type "tuple") := hb _
  have A3 : PySem.W.Looks (model prog w) hh (fillsNumberSlot (.ref C) "add") true := PySem.W.fills_K KX hcd hm hs
  have A4 : PySem.W.Looks (model prog w) hh (fillsNumberSlot (.type "tuple") "add") ((Option.isSome (some (Value.builtin "tuple.__add__")) && !isSeqSlot (some (.builtin "tuple.__add__"))) || (Option.isSome (none : Option Value) && !isSeqSlot none)) :=
    PySem.W.ksp_fillsT KX T.t1 T.t2
  have A4' : PySem.W.Looks (model prog w) hh (fillsNumberSlot (.type "tuple") "add") false := by
    have e : ((Option.isSome (some (Value.builtin "tuple.__add__")) && !isSeqSlot (some (.builtin "tuple.__add__"))) || (Option.isSome (none : Option Value) && !isSeqSlot none)) = false := by decide +kernel
    rw [e] at A4
    exact A4
  have ne : (Value.ref C == Value.type "tuple") = false := Bool.eq_false_iff.mpr fun q => by cases beq_iff_eq.mp q
  show wpAny _ _ (binaryOp .Add (.ref x) b) Q E' _
  have hi : Operator.info .Add = ("+", "add") := rfl
  simp only [binaryOp, hi]
  refine wpAny_holding (wpAny_bind ?_)
  unfold binaryOp1
  refine wpAny_bind (A1.at (wpAny_bind (A2.at (wpAny_bind (A3.at ?_)))))
  simp only [ne, Bool.false_eq_true, if_false]
  ksp_lk
  refine wpAny_mono one ?_ fun _ _ e => e
  rintro r s' ⟨v, rfl, hq⟩
  ksp_lk
  exact hq
def rAddO (K : PySem.W.Frag) (C : Addr) (sp : Sp) (E : XK) : R2 := fun x y H Q =>
  ∃ a dx fs b ys, x = .ref a ∧ y = .ref b ∧ H a = some (.ins C dx fs) ∧ SqT K H b ys ∧ sp [.ref a, .ref b] H Q E
theorem op_add_O (g : Clr X.A) (hr : Room k X.A) (W : Own X CX k C (PySem.dunder "add") f fd ps sp 2 E) (T : AddC X.K C)
    (hv : ∀ vs H Q, sp vs H Q E → sp vs H (fun v H1 => (∃ a, v = .ref a) ∧ Q v H1) E) : OpR X (binaryOp .Add) (rAddO X.K C sp E) := by
  intro pins s σ H x y v u Q I rx ry h
  obtain ⟨a, dx, fs, b, ys, rfl, rfl, ea, eb, h⟩ := h
  cases rx
  cases ry
  obtain ⟨ox, od, J⟩ := inst I ea
  obtain ⟨m, hF⟩ := I.fr
  obtain ⟨its, _, ⟨o, ho, hc, _⟩, _⟩ := I.tuple eb
  refine add_tuple hF I.ok.mod.kin J (fun M => hc ▸ look_type ho) T W.at_ W.fn ?_
  refine wpAny_mono (run_at (us := [.ref a, .ref b]) (vs := [.ref a, .ref b]) (ws := []) (zs := []) g hr rfl W.F W.bd W.ps_ I (.cons rfl (.cons rfl .nil)) .nil rfl rfl (hv _ _ _ h)) ?_ fun _ _ z => z
  rintro w' s' ⟨z, H1, I1, rz, ⟨c, rfl⟩, q⟩
  cases rz
  exact ⟨.ref c, H1, I1, rfl, q⟩
end
end GL

set_option Elab.async false
set_option linter.all false
set_option maxRecDepth 100000
set_option maxHeartbeats 2000000
namespace GL
open PySem PySem.Spec PyProof.Rows L2

section
variable {P : Program} {w : World} {K : PySem.W.Frag} {mg : Str → Option Value} {base : Heap}
theorem okG {x qual : Str} {st : Stmt} {f : Addr} {fd : FuncData} {N ps : List Str} {k : Nat} {sp : Sp} (F : Fun K x qual st f fd)
    (S : FnScope N ps (defScope st)) (many : ∀ vs H Q E, sp vs H Q E → vs.length = ps.length)
    (hbody : ∀ (cdv : Value) (A : Around) (out : List Env) (s : Shared) (H : Hp) (vs : List V) (Q : VK) (E : XK),
      Clr (A.deeper (envOfC qual (defScope st) s.heap.objs.size f cdv)) → Room k (A.deeper (envOfC qual (defScope st) s.heap.objs.size f cdv)) → sp vs H Q E →
      ∃ t, PSs (cxOf CX0 P w K mg base N qual (defScope st) f cdv A out s H E).nox (defBody st) t ∧
        t { nx := fun _ H' => Q .non H', rt := Q } (start N vs) H) : FnG P w K mg base CX0 (k + 1) f fd ps sp := by
  obtain ⟨oc, od, kV, doc, pm, an, cdv, ct, osl, rfl, lk, hcd⟩ := F.ex
  refine body_g lk hcd S many ?_
  intro A out s H vs Q E g hr hsp
  obtain ⟨t, h, q⟩ := hbody cdv A out s H vs Q E g hr hsp
  exact ⟨t, h.nox, q⟩
theorem okGD {x qual : Str} {params : Arguments} {body : List Stmt} {scope : Scope} {dvs : List V} {kws : List (Str × V)} {f : Addr} {fd : FuncData}
    {N ps : List Str} {k : Nat} {sp : Sp} (F : FunD K x qual params body scope dvs kws f fd)
    (S : FnScope N ps scope) (many : ∀ vs H Q E, sp vs H Q E → vs.length = ps.length)
    (hbody : ∀ (cdv : Value) (A : Around) (out : List Env) (s : Shared) (H : Hp) (vs : List V) (Q : VK) (E : XK),
      Clr (A.deeper (envOfC qual scope s.heap.objs.size f cdv)) → Room k (A.deeper (envOfC qual scope s.heap.objs.size f cdv)) → sp vs H Q E →
      ∃ t, PSs (cxOf CX0 P w K mg base N qual scope f cdv A out s H E).nox body t ∧
        t { nx := fun _ H' => Q .non H', rt := Q } (start N vs) H) : FnG P w K mg base CX0 (k + 1) f fd ps sp := by
  obtain ⟨oc, od, dV, kV, doc, pm, an, cdv, ct, osl, rfl, lk, hcd, _, _⟩ := F.ex
  refine body_g lk hcd S many ?_
  intro A out s H vs Q E g hr hsp
  obtain ⟨t, h, q⟩ := hbody cdv A out s H vs Q E g hr hsp
  exact ⟨t, h.nox, q⟩

/-- all parameters by place -/
theorem kbPlace {x qual : Str} {st : Stmt} {f : Addr} {fd : FuncData} {ps : List Str} (F : Fun K x qual st f fd)
    (h : ∀ (kV doc pm : Value) (an : Option Addr) (cdv ct : Value) (us : List Value), us.length = ps.length →
      bindArgs (PySem.W.fnOf x qual (defArgs st) (defBody st) (defScope st) .none kV doc pm an cdv ct) ⟨us, []⟩ = pure (ps.zip us)) :
    KBn K fd ps ps.length [] (fun us _ => us) (fun vs _ => vs) := by
  obtain ⟨oc, od, kV, doc, pm, an, cdv, ct, osl, rfl, lk, hcd⟩ := F.ex
  constructor
  · intro s us ws _ l1 _
    exact .of_eq (h kV doc pm an cdv ct us l1)
  · intro vs us zs ws r _
    exact r
/-- some by place, others by name, no defaults -/
theorem kbNames {x qual : Str} {st : Stmt} {f : Addr} {fd : FuncData} {ps : List Str} (F : Fun K x qual st f fd) (n : Nat) (ks : List Str)
    (g : {α : Type} → List α → List α → List α)
    (hrel : ∀ {vs zs : List V} {us ws : List Value}, Vals vs us → Vals zs ws → Vals (g vs zs) (g us ws))
    (h : ∀ (kV doc pm : Value) (an : Option Addr) (cdv ct : Value) (us ws : List Value), us.length = n → ws.length = ks.length →
      bindArgs (PySem.W.fnOf x qual (defArgs st) (defBody st) (defScope st) .none kV doc pm an cdv ct) ⟨us, ks.zip ws⟩ = pure (ps.zip (g us ws))) :
    KBn K fd ps n ks g g := by
  obtain ⟨oc, od, kV, doc, pm, an, cdv, ct, osl, rfl, lk, hcd⟩ := F.ex
  constructor
  · intro s us ws _ l1 l2
    exact .of_eq (h kV doc pm an cdv ct us ws l1 l2)
  · exact hrel
end

/-! ### numbers that are handed on as letters -/
def rModL : R2 := fun x y H Q => ∃ i j, x = .int i ∧ y = .int j ∧ 0 < j ∧ ∀ r, 0 ≤ r → r < j → r = i % j → Q (.int r) H
def rDivL : R2 := fun x y H Q => ∃ i j, x = .int i ∧ y = .int j ∧ (0 < j ∧ j < 1073741824) ∧ ∀ r, r = i / j → Q (.int r) H
section
variable {X : Cx}
theorem op_mod_l : OpR X (binaryOp .Mod) rModL := by
  intro pins s σ H x y v u Q I rx ry h
  obtain ⟨i, j, ex, ey, hj, q⟩ := h
  refine op_modN pins s σ H x y v u Q I rx ry ⟨i, j, ex, ey, by omega, ?_⟩
  dsimp only
  rw [Int.fmod_eq_emod_of_nonneg _ (by omega : 0 ≤ j)]
  exact q _ (Int.emod_nonneg _ (by omega)) (Int.emod_lt_of_pos _ hj) rfl
theorem op_div_l : OpR X (binaryOp .FloorDiv) rDivL := by
  intro pins s σ H x y v u Q I rx ry h
  obtain ⟨i, j, ex, ey, hj, q⟩ := h
  refine op_fdivN pins s σ H x y v u Q I rx ry ⟨i, j, ex, ey, ⟨by omega, by omega⟩, ?_⟩
  dsimp only
  rw [Int.fdiv_eq_ediv_of_nonneg _ (by omega : 0 ≤ j)]
  exact q _ rfl
end

/-! ### heaps -/
theorem Same.refl' (H : Hp) : Same H H := fun _ _ e => e
/-- all but one address stays -/
def But (p : Addr) (H H' : Hp) : Prop := ∀ a o, a ≠ p → H a = some o → H' a = some o
theorem But.refl {p : Addr} {H : Hp} : But p H H := fun _ _ _ e => e
theorem But.of {p : Addr} {H H' : Hp} (s : Same H H') : But p H H' := fun a o _ e => s a o e
theorem But.trans {p : Addr} {H H1 H2 : Hp} (a : But p H H1) (b : But p H1 H2) : But p H H2 := fun c o n e => b c o n (a c o n e)
theorem But.upd {p : Addr} {H H1 : Hp} {o : HO} (a : But p H H1) : But p H (upd H1 p o) := fun c u n e => by rw [upd_ne n]; exact a c u n e
theorem But.new {p q : Addr} {H H1 : Hp} {o : HO} (a : But p H H1) (n : H1 q = none) : But p H (L2.upd H1 q o) := fun c u m e => by
  have z := a c u m e
  rw [upd_ne (ne_of_none z n)]
  exact z
theorem same_new {q : Addr} {H H1 : Hp} {o : HO} (a : Same H H1) (n : H1 q = none) : Same H (L2.upd H1 q o) := fun c u e => by
  have z := a c u e
  rw [upd_ne (ne_of_none z n)]
  exact z
theorem same_trans {H H1 H2 : Hp} (a : Same H H1) (b : Same H1 H2) : Same H H2 := fun c o e => b c o (a c o e)
theorem But.seq {K : PySem.W.Frag} {p a : Addr} {xs : List V} {H H' : Hp} (b : But p H H') (n : a ≠ p) (h : SqL K H a xs) : SqL K H' a xs := by
  rcases h with (h | ⟨o, h⟩) | h
  · exact .inl (.inl (b _ _ n h))
  · exact .inl (.inr ⟨o, b _ _ n h⟩)
  · exact .inr h
theorem But.tup {K : PySem.W.Frag} {p a : Addr} {xs : List V} {H H' : Hp} (b : But p H H') (n : a ≠ p) (h : SqT K H a xs) : SqT K H' a xs := by
  rcases h with (h | ⟨o, h⟩) | h
  · exact .inl (.inl (b _ _ n h))
  · exact .inl (.inr ⟨o, b _ _ n h⟩)
  · exact .inr h
theorem same_tup {K : PySem.W.Frag} {a : Addr} {xs : List V} {H H' : Hp} (b : Same H H') (h : SqT K H a xs) : SqT K H' a xs := by
  rcases h with (h | ⟨o, h⟩) | h
  · exact .inl (.inl (b _ _ h))
  · exact .inl (.inr ⟨o, b _ _ h⟩)
  · exact .inr h
/-- a new object: the heap behind it by what is told of it -/
theorem mk_new {H : Hp} {o : HO} {Q : V → Hp → Prop} (h : ∀ p H', H p = none → H' p = some o → Same H H' → Q (.ref p) H') :
    ∀ p, H p = none → Q (.ref p) (L2.upd H p o) := fun p n => h p _ n upd_same (same_new (Same.refl' H) n)
/-- a store at p, told likewise -/
theorem mk_upd {H : Hp} {p : Addr} {o : HO} {R : Hp → Prop} (h : ∀ H', H' p = some o → But p H H' → R H') : R (L2.upd H p o) := h _ upd_same But.refl.upd
/-- a def that the text's top has bound to its name, with its promise; its arguments come by place -/
structure Has (P : Program) (w : World) (K : PySem.W.Frag) (mg : Str → Option Value) (base : Heap) (x : Str) (k : Nat) (ps : List Str) (sp : Sp) : Prop where
  ex : ∃ f fd, mg x = some (.ref f) ∧ PySem.W.keepIn K (.ref f) = true ∧ FnG P w K mg base CX0 k f fd ps sp ∧ KBn K fd ps ps.length [] (fun us _ => us) (fun vs _ => vs)
theorem Has.imp {P w K mg base x k ps sp sp'} (h : Has P w K mg base x k ps sp) (i : ∀ vs H Q E, sp' vs H Q E → sp vs H Q E) : Has P w K mg base x k ps sp' := by
  obtain ⟨f, fd, a, b, c, d⟩ := h.ex
  exact ⟨f, fd, a, b, c.imp i, d⟩
/-- f(e, ..) of such a def -/
theorem pe_has {X : Cx} {k : Nat} {x : Str} {ps : List Str} {sp : Sp} {p pos : Pos} {e : Expr} {es : List Expr} {t : TA} (h : Has X.prog X.w X.K X.mg X.base x k ps sp) (g : Clr X.A) (hr : Room k X.A) (hg : Gl X x)
    (ha : PA X (e :: es) t) (hdb : (x == ("__debug__" : Str)) = false := by decide)
    (he : starEach (e :: es) X.env = (false, eval e X.env) :: starEach es X.env := by rfl)
    (hpl : ((backTo pos (starEach (e :: es) X.env)).any (·.1) || (backToKw pos (keywordEach [] X.env)).any (·.1.isNone)) = false := by rfl) :
    PE X (.Call (.Name x p) (e :: es) [] pos) (tGo ps.length 0 sp (fun vs _ => vs) E0 t tNil) := by
  obtain ⟨f, fd, a, b, c, d⟩ := h.ex
  exact pe_go g c hr hg a b d pass0 ha pk_nil rfl rfl hdb he hpl
end GL

set_option Elab.async false
set_option linter.all false
set_option maxRecDepth 100000
set_option maxHeartbeats 2000000
/-! Rules that hand on a heap as a letter, with what is told of it. -/
namespace GL
open PySem PySem.Spec PyProof.Rows L2

abbrev NewK (H : Hp) (o : HO) (Q : VK) : Prop := ∀ p H', H p = none → H' p = some o → Same H H' → Q (.ref p) H'
abbrev PutK (H : Hp) (p : Addr) (o : HO) (R : Hp → Prop) : Prop := ∀ H', H' p = some o → But p H H' → R H'
theorem NewK.go {H : Hp} {o : HO} {Q : VK} (h : NewK H o Q) : ∀ p, H p = none → Q (.ref p) (upd H p o) := fun p n => h p _ n upd_same (same_new (Same.refl' H) n)
theorem PutK.go {H : Hp} {p : Addr} {o : HO} {R : Hp → Prop} (h : PutK H p o R) : R (upd H p o) := h _ upd_same But.refl.upd

def tLstL (t : TA) : TE := fun σ H Q => t σ H fun xs H1 => xs.length ≤ sizeLine ∧ NewK H1 (.lst xs) Q
def tTupL (t : TA) : TE := fun σ H Q => t σ H fun xs H1 => xs.length ≤ sizeLine ∧ NewK H1 (.tup xs) Q
section
variable {X : Cx} {es : List Expr} {t : TA} {pos : Pos}
theorem pe_lstL (h : PA X es t) : PE X (.List es pos) (tLstL t) := by
  constructor
  intro pins s σ H Q I hq
  apply wpAny_List_spliced
  refine thn (h.run pos pins s σ H _ I hq) ?_
  rintro us s1 ⟨xs, H1, I1, r, z, q⟩
  refine ⟨r.length ▸ z, .ref s1.heap.objs.size, _, ?_, rfl, q.go _ (I1.hok.fresh (Nat.le_refl _))⟩
  exact I1.laid (t' := s1.toks) (fun b u e => Heap.get?_push_of_some _ e) (Nat.le_refl _) ⟨z, us, 0, r, Heap.get?_push_size _ rfl⟩
theorem pe_tupL {x1} (h : PA X es t) : PE X (.Tuple es x1 pos) (tTupL t) := by
  constructor
  intro pins s σ H Q I hq
  apply wpAny_Tuple_spliced
  refine thn (h.run pos pins s σ H _ I hq) ?_
  rintro us s1 ⟨xs, H1, I1, r, z, q⟩
  refine ⟨r.length ▸ z, .ref s1.heap.objs.size, _, ?_, rfl, q.go _ (I1.hok.fresh (Nat.le_refl _))⟩
  exact I1.laid (t' := s1.toks) (fun b u e => Heap.get?_push_of_some _ e) (Nat.le_refl _) ⟨z, us, r, ⟨_, Heap.get?_push_size _ rfl, rfl, _, rfl⟩⟩

def rCatL : R2 := fun x y H Q => ∃ l b xs zs, x = .ref l ∧ y = .ref b ∧ H l = some (.lst xs) ∧ H b = some (.lst zs) ∧ xs.length + zs.length ≤ sizeLine ∧ NewK H (.lst (xs ++ zs)) Q
theorem op_catL : OpR X (binaryOp .Add) rCatL := by
  intro pins s σ H x y v u Q I rx ry h
  obtain ⟨l, b, xs, zs, ex, ey, e1, e2, z, q⟩ := h
  exact op_cat pins s σ H x y v u Q I rx ry ⟨l, b, xs, zs, ex, ey, e1, e2, z, q.go⟩
def rListOf (K : PySem.W.Frag) : List V → Hp → VK → Prop := fun xs H Q => ∃ p ys, xs = [.ref p] ∧ (SqL K H p ys ∨ SqT K H p ys) ∧ NewK H (.lst ys) Q
theorem call_listL : CallR X (.type "list") (rListOf X.K) := by
  intro pins s σ H xs us Q I r h
  obtain ⟨p, ys, e, o, q⟩ := h
  exact call_list_of pins s σ H xs us Q I r ⟨p, ys, e, o, q.go⟩
def rTupOf (K : PySem.W.Frag) : List V → Hp → VK → Prop := fun xs H Q => ∃ p ys, xs = [.ref p] ∧ SqL K H p ys ∧ NewK H (.tup ys) Q
theorem call_tupL : CallR X (.type "tuple") (rTupOf X.K) := by
  intro pins s σ H xs us Q I r h
  obtain ⟨p, ys, e, o, q⟩ := h
  exact call_tuple_of pins s σ H xs us Q I r ⟨p, ys, e, .inl ⟨o, q.go⟩⟩
def rSlcL (K : PySem.W.Frag) : V → Option Int → Option Int → Hp → VK → Prop := fun x lo hi H Q => ∃ a xs, x = .ref a ∧ SqL K H a xs ∧ NewK H (.lst (cutV xs lo hi)) Q
theorem slcL : L2.SlR X (rSlcL X.K) := by
  intro pins s σ H x v vl vu lo hi sl Q I rx hs pl pu h
  obtain ⟨a, xs, e, o, q⟩ := h
  exact sl_list pins s σ H x v vl vu lo hi sl Q I rx hs pl pu ⟨a, xs, e, o, q.go⟩
def rSortL (K : PySem.W.Frag) : List V → Hp → VK → Prop := fun vs H Q => ∃ (a : Addr) (xs : List Str), vs = [V.ref a] ∧ (SqL K H a (xs.map V.str)) ∧ xs.length < 64 ∧
  ∀ ys : List Str, ys.Perm xs → sortedS ys = true → NewK H (.lst (ys.map V.str)) Q
theorem call_sortL : CallR X (.builtin "sorted") (rSortL X.K) := by
  intro pins s σ H xs us Q I r h
  obtain ⟨a, zs, e, o, l, q⟩ := h
  exact cr_sortedS pins s σ H xs us Q I r ⟨a, zs, e, o, l, fun ys p h1 h2 h3 => (q ys h1 h2).go p h3⟩

def rAppL : V → List V → Hp → VK → Prop := fun x vs H Q => ∃ l xs y, x = .ref l ∧ vs = [y] ∧ H l = some (.lst xs) ∧ xs.length < sizeLine ∧ PutK H l (.lst (xs ++ [y])) (Q .non)
theorem mt_appL : MtM X "list.append" rAppL := by
  intro pins s σ H x xs v us Q I rx r h
  obtain ⟨l, ys, y, e1, e2, o, z, q⟩ := h
  exact mt_append pins s σ H x xs v us Q I rx r ⟨l, ys, y, e1, e2, o, z, q.go⟩
def rRevL : V → List V → Hp → VK → Prop := fun x vs H Q => ∃ l xs, x = .ref l ∧ vs = [] ∧ H l = some (.lst xs) ∧ PutK H l (.lst xs.reverse) (Q .non)
theorem mt_revL : MtM X "list.reverse" rRevL := by
  intro pins s σ H x xs v us Q I rx r h
  obtain ⟨l, ys, e1, e2, o, q⟩ := h
  exact mt_reverse pins s σ H x xs v us Q I rx r ⟨l, ys, e1, e2, o, q.go⟩
def rClrL : V → List V → Hp → VK → Prop := fun x vs H Q => ∃ l xs, x = .ref l ∧ vs = [] ∧ H l = some (.lst xs) ∧ PutK H l (.lst []) (Q .non)
theorem mt_clrL : MtM X "list.clear" rClrL := by
  intro pins s σ H x xs v us Q I rx r h
  obtain ⟨l, ys, e1, e2, o, q⟩ := h
  exact mt_clear pins s σ H x xs v us Q I rx r ⟨l, ys, e1, e2, o, q.go⟩
end

/-! ### back to what stood before -/
theorem back_same {H H' : Hp} {a : Addr} (s : Same H H') (n : H' a = none) : H a = none := Same.free s n
theorem back_but {p : Addr} {H H' : Hp} {a : Addr} (b : But p H H') (n : H' a = none) (h : a ≠ p) : H a = none := by
  cases q : H a with
  | none => rfl
  | some o => rw [b _ _ h q] at n; cases n
theorem ne_some {H : Hp} {a p : Addr} {o : HO} (n : H a = none) (e : H p = some o) : a ≠ p := fun z => by rw [z, e] at n; cases n
end GL

set_option Elab.async false
set_option linter.all false
set_option maxRecDepth 100000
set_option maxHeartbeats 2000000
/-! Methods and makers of the text's classes, with their promises, as one fact each. -/
namespace GL
open PySem PySem.Spec PyProof.Rows L2

/-- the class at C has the method, with its promise -/
structure HasM (P : Program) (w : World) (K : PySem.W.Frag) (mg : Str → Option Value) (base : Heap) (C : Addr) (m : Str) (k : Nat) (ps : List Str) (sp : Sp) : Prop where
  ex : ∃ f fd, Meth K C m f ∧ FnG P w K mg base CX0 k f fd ps sp ∧ KBn K fd ps ps.length [] (fun us _ => us) (fun vs _ => vs)
/-- the method, called with some of its values by names: n by place (the object among them), ks by name, g puts them in their places -/
structure HasMK (P : Program) (w : World) (K : PySem.W.Frag) (mg : Str → Option Value) (base : Heap) (C : Addr) (m : Str) (k : Nat) (ps : List Str) (sp : Sp)
    (n : Nat) (ks : List Str) (gV : List V → List V → List V) : Prop where
  ex : ∃ f fd g1, Meth K C m f ∧ FnG P w K mg base CX0 k f fd ps sp ∧ KBn K fd ps n ks g1 gV
/-- the class is made so: n values behind the object by place, ks by name -/
structure HasC (P : Program) (w : World) (K : PySem.W.Frag) (mg : Str → Option Value) (base : Heap) (C : Addr) (k : Nat) (ps : List Str) (sp : Sp)
    (n : Nat) (ks : List Str) (gV : List V → List V → List V) : Prop where
  ex : ∃ f fd g1, Mk K C f ∧ FnG P w K mg base CX0 k f fd ps sp ∧ KBn K fd ps (n + 1) ks g1 gV
section
variable {X : Cx} {k n : Nat} {C : Addr} {x m : Str} {ps ks : List Str} {sp : Sp} {p pos apos : Pos} {e o : Expr} {es : List Expr} {kws : List Keyword} {ta : TE} {t tk : TA}
  {gV : List V → List V → List V}
theorem pe_hasM {pl : Sem Bool} (h : HasM X.prog X.w X.K X.mg X.base C m k ps sp) (c : Cls X.K C) (g : Clr X.A) (hr : Room k X.A) (hn : ps.length = n + 1) (he : PE X o ta) (ha : PA X (e :: es) t)
    (hst : starEach (e :: es) X.env = (false, eval e X.env) :: starEach es X.env := by rfl)
    (hpl : ((backTo pos (starEach (e :: es) X.env)).any (·.1) || (backToKw pos (keywordEach [] X.env)).any (·.1.isNone)) = false := by rfl)
    (ht : eval (.Call (.Attribute o m apos) (e :: es) [] pos) X.env = (do
      let ov ← eval o X.env
      standAt apos.atName
      let (f, first) ← holding [ov] (getMethod ov m pl)
      callWith pos f first (backTo pos (starEach (e :: es) X.env)) (backToKw pos (keywordEach [] X.env))) := by rfl) :
    PE X (.Call (.Attribute o m apos) (e :: es) [] pos) (tGoM C m n 0 sp (fun vs _ => vs) E0 ta t tNil) := by
  obtain ⟨f, fd, a, F, b⟩ := h.ex
  rw [hn] at b
  exact pe_goM g he c a F hr b pass0 ha pk_nil rfl rfl hst hpl ht
theorem pe_hasM0 {pl : Sem Bool} (h : HasM X.prog X.w X.K X.mg X.base C m k ps sp) (c : Cls X.K C) (g : Clr X.A) (hr : Room k X.A) (hn : ps.length = 1) (he : PE X o ta)
    (hpl : ((backTo pos (starEach [] X.env)).any (·.1) || (backToKw pos (keywordEach [] X.env)).any (·.1.isNone)) = false := by rfl)
    (ht : eval (.Call (.Attribute o m apos) [] [] pos) X.env = (do
      let ov ← eval o X.env
      standAt apos.atName
      let (f, first) ← holding [ov] (getMethod ov m pl)
      callWith pos f first (backTo pos (starEach [] X.env)) (backToKw pos (keywordEach [] X.env))) := by rfl) :
    PE X (.Call (.Attribute o m apos) [] [] pos) (tGoM C m 0 0 sp (fun vs _ => vs) E0 ta tNil tNil) := by
  obtain ⟨f, fd, a, F, b⟩ := h.ex
  rw [hn] at b
  exact pe_goM0 g he c a F hr b pass0 pk_nil rfl rfl hpl ht
theorem pe_hasMK0 {pl : Sem Bool} (h : HasMK X.prog X.w X.K X.mg X.base C m k ps sp 1 ks gV) (c : Cls X.K C) (g : Clr X.A) (hr : Room k X.A) (he : PE X o ta) (hw : PK X kws tk)
    (hall : (backToKw pos (keywordEach kws X.env)).all (·.1.isSome) = true := by rfl)
    (hks : (backToKw pos (keywordEach kws X.env)).filterMap (·.1) = ks := by rfl)
    (hpl : ((backTo pos (starEach [] X.env)).any (·.1) || (backToKw pos (keywordEach kws X.env)).any (·.1.isNone)) = false := by rfl)
    (ht : eval (.Call (.Attribute o m apos) [] kws pos) X.env = (do
      let ov ← eval o X.env
      standAt apos.atName
      let (f, first) ← holding [ov] (getMethod ov m pl)
      callWith pos f first (backTo pos (starEach [] X.env)) (backToKw pos (keywordEach kws X.env))) := by rfl) :
    PE X (.Call (.Attribute o m apos) [] kws pos) (tGoM C m 0 ks.length sp gV E0 ta tNil tk) := by
  obtain ⟨f, fd, g1, a, F, b⟩ := h.ex
  exact pe_goM0 g he c a F hr b pass0 hw hall hks hpl ht
theorem pe_hasC (h : HasC X.prog X.w X.K X.mg X.base C k ps sp n ks gV) (g : Clr X.A) (hr : Room (k + 1) X.A) (hg : Gl X x) (hm : X.mg x = some (.ref C)) (ha : PA X (e :: es) t) (hw : PK X kws tk)
    (hall : (backToKw pos (keywordEach kws X.env)).all (·.1.isSome) = true := by rfl)
    (hks : (backToKw pos (keywordEach kws X.env)).filterMap (·.1) = ks := by rfl)
    (hdb : (x == ("__debug__" : Str)) = false := by decide)
    (he : starEach (e :: es) X.env = (false, eval e X.env) :: starEach es X.env := by rfl)
    (hpl : ((backTo pos (starEach (e :: es) X.env)).any (·.1) || (backToKw pos (keywordEach kws X.env)).any (·.1.isNone)) = false := by rfl) :
    PE X (.Call (.Name x p) (e :: es) kws pos) (tNew C n ks.length sp gV E0 t tk) := by
  obtain ⟨f, fd, g1, a, F, b⟩ := h.ex
  exact pe_new g a F hr hg hm b pass0 ha hw hall hks hdb he hpl
theorem pe_hasC0 (h : HasC X.prog X.w X.K X.mg X.base C k ps sp 0 ks gV) (g : Clr X.A) (hr : Room (k + 1) X.A) (hg : Gl X x) (hm : X.mg x = some (.ref C)) (hw : PK X kws tk)
    (hall : (backToKw pos (keywordEach kws X.env)).all (·.1.isSome) = true := by rfl)
    (hks : (backToKw pos (keywordEach kws X.env)).filterMap (·.1) = ks := by rfl)
    (hdb : (x == ("__debug__" : Str)) = false := by decide)
    (hpl : ((backTo pos (starEach [] X.env)).any (·.1) || (backToKw pos (keywordEach kws X.env)).any (·.1.isNone)) = false := by rfl) :
    PE X (.Call (.Name x p) [] kws pos) (tNew C 0 ks.length sp gV E0 tNil tk) := by
  obtain ⟨f, fd, g1, a, F, b⟩ := h.ex
  exact pe_new0 g a F hr hg hm b pass0 hw hall hks hdb hpl

/-! own operators of such a class -/
theorem HasM.own {nm : Str} (h : HasM X.prog X.w X.K X.mg X.base C nm k ps sp) : ∃ f fd, Own X CX0 k C nm f fd ps sp ps.length E0 := by
  obtain ⟨f, fd, a, F, b⟩ := h.ex
  exact ⟨f, fd, F, a.at_, a.fn, b, pass0⟩
theorem cr_len (h : HasM X.prog X.w X.K X.mg X.base C "__len__" k ["self"] sp) (g : Clr X.A) (hr : Room (k + 1) X.A) : CallR X (.builtin "len") (rLenO C sp E0) := by
  obtain ⟨f, fd, W⟩ := h.own
  exact call_len_O g hr W
theorem cr_repr (h : HasM X.prog X.w X.K X.mg X.base C "__repr__" k ["self"] sp) (g : Clr X.A) (hr : Room (k + 1) X.A) : CallR X (.builtin "repr") (rReprO C sp E0) := by
  obtain ⟨f, fd, W⟩ := h.own
  exact call_repr_O g hr W
theorem or_eq (h : HasM X.prog X.w X.K X.mg X.base C "__eq__" k ["self", "other"] sp) (B : Below X.K C) (g : Clr X.A) (hr : Room k X.A) : OpR X (compareOp .Eq) (rEqO X.K C sp E0) := by
  obtain ⟨f, fd, W⟩ := h.own
  exact op_eq_O g hr W B
theorem or_ne (h : HasM X.prog X.w X.K X.mg X.base C "__eq__" k ["self", "other"] sp) (T : ∃ f N, EqC X.K C f N ∧ PySem.W.findIn X.K (.ref C) "__eq__" = some (some (.ref f))) (g : Clr X.A) (hr : Room (k + 1) X.A) :
    OpR X (compareOp .NotEq) (rNeO C sp E0) := by
  obtain ⟨f, fd, W⟩ := h.own
  obtain ⟨f', N, T, e⟩ := T
  have z := e.symm.trans W.at_
  cases z
  exact op_ne_O g hr W T
theorem or_add (h : HasM X.prog X.w X.K X.mg X.base C (PySem.dunder "add") k ["self", "other"] sp) (T : AddC X.K C) (g : Clr X.A) (hr : Room k X.A)
    (hv : ∀ vs H Q, sp vs H Q E0 → sp vs H (fun v H1 => (∃ a, v = .ref a) ∧ Q v H1) E0) : OpR X (binaryOp .Add) (rAddO X.K C sp E0) := by
  obtain ⟨f, fd, W⟩ := h.own
  exact op_add_O g hr W T hv
end
end GL

set_option Elab.async false
set_option linter.all false
set_option maxRecDepth 100000
set_option maxHeartbeats 2000000
namespace KM
open PySem PySem.Spec PyProof.Rows L2 GL

def top (i : Nat) : Stmt := PySem.Challenge.pw_lateledger_k51_moves_told.main.body.getD i (.Pass ⟨0, 0, 0, 0⟩)
abbrev sPot : Stmt := top 28
abbrev sDraw : Stmt := top 29
abbrev sPick : Stmt := top 30

/-- built-in names that the text leaves as they are -/
structure Bi (mg : Str → Option Value) : Prop where
  len : mg "len" = none
  divmod : mg "divmod" = none
  int : mg "int" = none
  abs : mg "abs" = none
  max : mg "max" = none
  min : mg "min" = none
  range : mg "range" = none
  list : mg "list" = none
  tuple : mg "tuple" = none
  repr : mg "repr" = none
  sorted : mg "sorted" = none
  enumerate : mg "enumerate" = none
  all : mg "all" = none
  any : mg "any" = none
  isinstance : mg "isinstance" = none
  str : mg "str" = none
  bool : mg "bool" = none

/-- a pot stands at p -/
def PotAt (H : Hp) (p : Addr) : Prop := ∃ a b : Int, H p = some (.lst [.int a, .int b]) ∧ 0 ≤ a ∧ 0 ≤ b ∧ b < 4294967296
theorem cdiv {i j : Int} (h0 : 0 < j) (h1 : j < 1048576) : CDivP i j := by
  refine ⟨h0, ?_⟩
  unfold Builtin.divisionGoesByPylong
  have z : j.natAbs.log2 / 30 + 1 ≤ 300 := by
    have : j.natAbs.log2 < 20 := (Nat.log2_lt (by omega)).mpr (by omega)
    omega
  have z2 : ¬ (j = 0) := by omega
  simp [z2]
  omega

/-- draw(pot, n): from 0 to n - 1; the pot stays one -/
def spDraw : Sp := fun vs H Q _ => ∃ (p : Addr) (n : Int), vs = [.ref p, .int n] ∧ PotAt H p ∧ 0 < n ∧ n < 1048576 ∧
  ∀ (d : Int) (H' : Hp), 0 ≤ d → d < n → PotAt H' p → But p H H' → Q (.int d) H'

section
variable {P : Program} {w : World} {K : PySem.W.Frag} {mg : Str → Option Value} {base : Heap}

theorem scDraw : FnScope ["_law_pot_here", "_law_many", "_law_digit"] ["_law_pot_here", "_law_many"] (defScope sDraw) :=
  ⟨rfl, rfl, rfl, by decide +kernel, rfl, by decide +kernel, by decide +kernel⟩
theorem ok_draw {f : Addr} {fd : FuncData} (F : Fun K "_law_draw" "_law_draw" sDraw f fd) (T : Bi mg) : FnG P w K mg base CX0 1 f fd ["_law_pot_here", "_law_many"] spDraw := by
  refine okG F scDraw (fun vs H Q E h => ?_) (fun cdv A out s H vs Q E g hr h => ?_)
  · obtain ⟨p, n, rfl, _⟩ := h
    rfl
  · obtain ⟨p, n, rfl, ⟨a, b, hp, ha, hb, hb2⟩, hn, hn2, q⟩ := h
    refine ⟨_, pss_cons (ps_if (pt_cmpR op_gt (pe_ix ix_list (pv 0) pe_int (fun _ _ => rfl)) pe_int (nomark _))
        (pss_cons (ps_asg (pe_callB call_divmodW (by rfl) T.divmod (by decide +kernel) (pa_cons (pe_ix ix_list (pv 0) pe_int (fun _ _ => rfl)) (pa_cons (pv 1) pa_nil)))
          (pg_tup rfl (pgs_cons (pg_sub (pv 0) pe_int set_list) (pgs_cons (pg_name (i := 2) scDraw.nd rfl (.inl rfl)) pgs_nil)))) (pss_one (ps_ret (pv 2)))) pss_nil)
      (pss_cons (ps_asg (pe_op op_mod_l (pe_callTy call_int1 (by rfl) T.int (by decide +kernel) (pa_cons (pe_op op_add (pe_op op_mul (pe_ix ix_list (pv 0) pe_int (fun _ _ => rfl)) pe_int) pe_int) pa_nil)) pe_int)
          (pg_sub (pv 0) pe_int set_list))
      (pss_one (ps_ret (pe_op op_mod_l (pe_callTy call_int1 (by rfl) T.int (by decide +kernel) (pa_cons (pe_op op_div_l (pe_op op_mod_l
        (pe_callTy call_int1 (by rfl) T.int (by decide +kernel) (pa_cons (pe_op op_mul (pe_ix ix_list (pv 0) pe_int (fun _ _ => rfl)) (pe_ix ix_list (pv 0) pe_int (fun _ _ => rfl))) pa_nil)) pe_int) pe_int) pa_nil)) (pv 1))))), ?_⟩
    refine ⟨_, rfl, p, _, 0, .int a, rfl, rfl, SqL.of hp, rfl, a, 0, rfl, rfl, _, rfl, ?_⟩
    refine ite2 (fun c => ?_) (fun c => ?_)
    · have c0 : 0 < a := of_decide_eq_true c
      refine ⟨_, rfl, p, _, 0, .int a, rfl, rfl, SqL.of hp, rfl, _, rfl, a, n, rfl, cdiv hn hn2, fun t ht => ?_⟩
      have npt : p ≠ t := ne_of_none hp ht
      refine ⟨t, _, rfl, SqT.of upd_same, rfl, _, _, rfl, _, rfl, p, _, 0, 0, rfl, rfl, (by rw [upd_ne npt]; exact hp), rfl, _, _, rfl, rfl, _, rfl, ?_⟩
      refine q (a % n) _ (Int.emod_nonneg _ (by omega)) (Int.emod_lt_of_pos _ hn) ⟨a / n, b, upd_same, Int.ediv_nonneg ha (by omega), hb, hb2⟩ ?_
      exact (But.new But.refl ht).upd
    · refine ⟨_, rfl, p, _, 1, .int b, rfl, rfl, SqL.of hp, rfl, _, _, rfl, rfl, .inl ⟨by omega, by omega⟩, _, _, rfl, rfl, .inl ⟨_, rfl, _, _, rfl, rfl, (by decide), fun b' n1 n2 _ => ?_⟩⟩
      refine ⟨_, rfl, p, _, 1, 1, rfl, rfl, hp, rfl, ?_⟩
      refine ⟨_, rfl, p, _, 1, .int b', rfl, rfl, SqL.of upd_same, rfl, _, rfl, p, _, 1, .int b', rfl, rfl, SqL.of upd_same, rfl, _, _, rfl, rfl, .inl ⟨by omega, by omega⟩, .inl ⟨_, rfl, _, _, rfl, rfl, (by decide), fun c1 _ _ _ => ?_⟩⟩
      refine ⟨_, _, rfl, rfl, ⟨by decide, by decide⟩, fun c2 _ => .inl ⟨_, rfl, _, rfl, _, _, rfl, rfl, hn, fun d d0 d1 _ => ?_⟩⟩
      exact q d _ d0 d1 ⟨a, b', upd_same, ha, n1, by omega⟩ But.refl.upd

/-- pick(pot, some): one of the list -/
def spPick (K : PySem.W.Frag) : Sp := fun vs H Q _ => ∃ (p l : Addr) (xs : List V), vs = [.ref p, .ref l] ∧ PotAt H p ∧ SqL K H l xs ∧ l ≠ p ∧ 0 < xs.length ∧ xs.length < 1048576 ∧
  ∀ (i : Nat) (x : V) (H' : Hp), xs[i]? = some x → PotAt H' p → But p H H' → Q x H'
theorem scPick : FnScope ["_law_pot_here", "_law_some"] ["_law_pot_here", "_law_some"] (defScope sPick) :=
  ⟨rfl, rfl, rfl, by decide +kernel, rfl, by decide +kernel, by decide +kernel⟩
theorem atI_of {xs : List V} {d : Int} (h0 : 0 ≤ d) (h1 : d < xs.length) : ∃ v, atI xs d = some v ∧ xs[d.toNat]? = some v := by
  have n : d.toNat < xs.length := by omega
  refine ⟨xs[d.toNat], ?_, List.getElem?_eq_getElem n⟩
  unfold atI ixN
  rw [if_pos h0, if_pos h1]
  simp [n]
theorem ok_pick {f : Addr} {fd : FuncData} (F : Fun K "_law_pick" "_law_pick" sPick f fd) (T : Bi mg)
    (D : Has P w K mg base "_law_draw" 1 ["_law_pot_here", "_law_many"] spDraw) :
    FnG P w K mg base CX0 2 f fd ["_law_pot_here", "_law_some"] (spPick K) := by
  refine okG F scPick (fun vs H Q E h => ?_) (fun cdv A out s H vs Q E g hr h => ?_)
  · obtain ⟨p, l, xs, rfl, _⟩ := h
    rfl
  · obtain ⟨p, l, xs, rfl, hp, hl, hne, h0, h1, q⟩ := h
    refine ⟨_, pss_one (ps_ret (pe_ix ix_list (pv 1) (pe_has D g hr (by rfl) (pa_cons (pv 0) (pa_cons (pe_callB call_len_seq (by rfl) T.len PySem.boot_len (pa_cons (pv 1) pa_nil)) pa_nil))) (fun _ _ => rfl))), ?_⟩
    refine ⟨_, rfl, _, rfl, _, rfl, l, xs, rfl, .inl hl, rfl, rfl, p, _, rfl, hp, by omega, by omega, fun d H' d0 d1 hp' b => ?_⟩
    obtain ⟨v, e1, e2⟩ := atI_of d0 d1
    exact ⟨l, xs, d, v, rfl, rfl, b.seq hne hl, e1, q _ v H' e2 hp' b⟩
end
end KM

set_option Elab.async false
set_option linter.all false
set_option maxRecDepth 100000
set_option maxHeartbeats 2000000
namespace KM
open PySem PySem.Spec PyProof.Rows L2 GL
abbrev sMixed : Stmt := top 32
/-- mixed(pot, some): a new list, the same things in some sequence -/
def spMixed (K : PySem.W.Frag) : Sp := fun vs H Q _ => ∃ (p l : Addr) (xs : List V), vs = [.ref p, .ref l] ∧ PotAt H p ∧ SqL K H l xs ∧ l ≠ p ∧ xs.length < 1000 ∧
  ∀ (ys : List V) (D : Addr) (H' : Hp), ys.Perm xs → H D = none → H' D = some (.lst ys) → PotAt H' p → But p H H' → Q (.ref D) H'
theorem erase_perm {α : Type} : ∀ (l : List α) (k : Nat) (h : k < l.length), (l[k] :: l.eraseIdx k).Perm l
  | [], _, h => absurd h (Nat.not_lt_zero _)
  | a :: l, 0, _ => .refl _
  | a :: l, k + 1, h => by
    have hk : k < l.length := Nat.lt_of_succ_lt_succ h
    have ih := erase_perm l k hk
    show (l[k] :: a :: l.eraseIdx k).Perm (a :: l)
    exact (List.Perm.swap a l[k] _).trans (ih.cons a)
theorem perm_take {ys zs xs : List V} {k : Nat} {y : V} (h : (ys ++ zs).Perm xs) (e : zs[k]? = some y) : ((ys ++ [y]) ++ zs.eraseIdx k).Perm xs := by
  refine List.Perm.trans ?_ h
  rw [List.append_assoc]
  refine List.Perm.append_left ys ?_
  obtain ⟨hk, rfl⟩ := List.getElem?_eq_some_iff.mp e
  exact erase_perm _ _ hk
section
variable {P : Program} {w : World} {K : PySem.W.Frag} {mg : Str → Option Value} {base : Heap}
theorem scMixed : FnScope ["_law_pot_here", "_law_some", "_law_left", "_law_found", "_law_turn"] ["_law_pot_here", "_law_some"] (defScope sMixed) :=
  ⟨rfl, rfl, rfl, by decide +kernel, rfl, by decide +kernel, by decide +kernel⟩
theorem ok_mixed {f : Addr} {fd : FuncData} (F : Fun K "_law_mixed" "_law_mixed" sMixed f fd) (T : Bi mg)
    (D : Has P w K mg base "_law_draw" 1 ["_law_pot_here", "_law_many"] spDraw) :
    FnG P w K mg base CX0 2 f fd ["_law_pot_here", "_law_some"] (spMixed K) := by
  refine okG F scMixed (fun vs H Q E h => ?_) (fun cdv A out s H vs Q E g hr h => ?_)
  · obtain ⟨p, l, xs, rfl, _⟩ := h
    rfl
  · obtain ⟨p, l, xs, rfl, hp, hl, hne, h1, q⟩ := h
    refine ⟨_, pss_cons (ps_par (i := 2) (j := 3) (by rfl) scMixed.nd rfl rfl (by decide) rfl rfl
        (pa_cons (pe_callTy call_list_of (by rfl) T.list (by decide +kernel) (pa_cons (pv 1) pa_nil)) (pa_cons (pe_lst pa_nil) pa_nil)) (by rfl))
      (pss_cons (ps_for PassesOwn.never rfl (pi_range1 (by rfl) T.range (pa_cons (pe_callB call_len_seq (by rfl) T.len PySem.boot_len (pa_cons (pv 2) pa_nil)) pa_nil)) (pg_name (i := 4) scMixed.nd rfl (.inl rfl))
        (pss_one (ps_expr (pe_bm PySem.F.plainAttrs_list PySem.F.slot_list_append PySem.F.type_list_append mt_append (pv 3) (pa_cons
          (pe_bm PySem.F.plainAttrs_list PySem.F.slot_list_pop PySem.F.type_list_pop mt_popAt (pv 2) (pa_cons
            (pe_has D g hr (by rfl) (pa_cons (pv 0) (pa_cons (pe_callB call_len_seq (by rfl) T.len PySem.boot_len (pa_cons (pv 2) pa_nil)) pa_nil))) pa_nil)) pa_nil)))))
      (pss_one (ps_ret (pv 3)))), ?_⟩
    refine ⟨_, rfl, l, xs, rfl, .inl hl, fun A1 nA => ⟨by show 0 ≤ sizeLine; decide, fun B1 nB => ?_⟩⟩
    obtain ⟨a, b, hpp, _⟩ := id hp
    have nAp : p ≠ A1 := ne_of_none hpp nA
    have hAB : A1 ≠ B1 := ne_of_none (o := .lst xs) upd_same nB
    have nBp : p ≠ B1 := by
      refine ne_of_none (H := upd H A1 (.lst xs)) (o := .lst [.int a, .int b]) ?_ nB
      rw [upd_ne nAp]; exact hpp
    have nB0 : H B1 = none := by
      have z := nB
      rwa [upd_ne hAB.symm] at z
    refine ⟨_, _, rfl, _, rfl, A1, xs, rfl, .inl (SqL.of (by rw [upd_ne hAB]; exact upd_same)), (xs.length : Int), rfl, by omega, by omega, ?_⟩
    refine for_range (n := (xs.length : Int).toNat) (fun i σ H' => ∃ (zs ys : List V) (tv : Option V), σ = [some (.ref p), some (.ref l), some (.ref A1), some (.ref B1), tv] ∧
      H' A1 = some (.lst zs) ∧ H' B1 = some (.lst ys) ∧ (ys ++ zs).Perm xs ∧ zs.length + i = xs.length ∧ PotAt H' p ∧ But p H H') ?_ ?_ ?_
    · refine ⟨xs, [], none, rfl, (by rw [upd_ne hAB]; exact upd_same), upd_same, .refl _, by simp, ?_, ?_⟩
      · obtain ⟨a, b, e, z⟩ := hp
        exact ⟨a, b, by rw [upd_ne nBp, upd_ne nAp]; exact e, z⟩
      · exact (But.refl.new nA).new nB
    · rintro i σ H' hi ⟨zs, ys, tv, rfl, eA, eB, pm, len, hp', bt⟩
      have hz : 0 < zs.length := by simp at hi; omega
      refine ⟨_, rfl, .inl ⟨rfl, _, SqL.of eB⟩, _, rfl, .inl ⟨rfl, _, SqL.of eA⟩, _, rfl, _, rfl, A1, zs, rfl, .inl (SqL.of eA), rfl, rfl, p, _, rfl, hp', by omega, by omega, fun d H2 d0 d1 hp2 b2 => ?_⟩
      obtain ⟨v, _, e2⟩ := atI_of (xs := zs) d0 d1
      have eA2 := b2 _ _ nAp.symm eA
      have eB2 := b2 _ _ nBp.symm eB
      refine ⟨A1, zs, d, d.toNat, v, rfl, rfl, eA2, by omega, by omega, seqIndex_of d0 d1, e2, ?_⟩
      refine ⟨B1, ys, v, rfl, rfl, (by rw [upd_ne hAB.symm]; exact eB2), ?_, ?_⟩
      · have : (ys ++ zs).length = xs.length := pm.length_eq
        rw [List.length_append] at this
        exact small1000 (by omega)
      · refine ⟨zs.eraseIdx d.toNat, ys ++ [v], _, rfl, (by rw [upd_ne hAB]; exact upd_same), upd_same, perm_take pm e2, ?_, ?_, ?_⟩
        · rw [List.length_eraseIdx]
          simp only [show d.toNat < zs.length by omega, if_true]
          omega
        · obtain ⟨a, b, e, z⟩ := hp2
          exact ⟨a, b, by rw [upd_ne nBp, upd_ne nAp]; exact e, z⟩
        · intro c o hc e
          have z := b2 _ _ hc (bt _ _ hc e)
          rw [upd_ne (ne_of_none e nB0), upd_ne (ne_of_none e nA)]
          exact z
    · rintro σ H' ⟨zs, ys, tv, rfl, eA, eB, pm, len, hp', bt⟩
      have z0 : zs = [] := by
        cases zs with
        | nil => rfl
        | cons _ _ => simp at len
      subst z0
      rw [List.append_nil] at pm
      exact ⟨_, rfl, q ys B1 H' pm nB0 eB hp' bt⟩
end
end KM

set_option Elab.async false
set_option linter.all false
set_option maxRecDepth 100000
set_option maxHeartbeats 2000000
namespace KM
open PySem PySem.Spec PyProof.Rows L2 GL

/-! ### the data: goods, rows -/
abbrev Row := Option Str × Option Str × Int
def oV : Option Str → V
  | none => .non
  | some x => .str x
def oD : Option Str → PyData
  | none => .none
  | some x => .str x
def rowV (r : Row) : List V := [oV r.1, oV r.2.1, .int r.2.2]
def rowD (r : Row) : PyData := .tuple [oD r.1, oD r.2.1, .int r.2.2]
def gsD (gs : List Str) : PyData := .list (gs.map .str)
def rowsD (rs : List Row) : PyData := .list (rs.map rowD)
def names : List Str := ["x", "y", "oil", "tea", "b", "a", "c", "zz"]
structure GoodGs (gs : List Str) : Prop where
  nd : gs.Nodup
  sub : ∀ x ∈ gs, x ∈ names
  l1 : 1 ≤ gs.length
  l2 : gs.length ≤ 4
structure GoodRow (gs : List Str) (r : Row) : Prop where
  ne : r.1 ≠ r.2.1
  one : ∀ x, r.1 = some x → x ∈ gs
  two : ∀ x, r.2.1 = some x → x ∈ gs
  most : r.2.2.natAbs ≤ 100
abbrev GoodRows (gs : List Str) (rs : List Row) : Prop := ∀ r ∈ rs, GoodRow gs r
theorem GoodGs.perm {gs hs : List Str} (h : GoodGs gs) (p : hs.Perm gs) : GoodGs hs :=
  ⟨(p.nodup_iff).mpr h.nd, fun x hx => h.sub x (p.mem_iff.mp hx), by rw [p.length_eq]; exact h.l1, by rw [p.length_eq]; exact h.l2⟩
theorem GoodRow.of_sub {gs hs : List Str} {r : Row} (h : GoodRow gs r) (s : ∀ x ∈ gs, x ∈ hs) : GoodRow hs r :=
  ⟨h.ne, fun x e => s _ (h.one x e), fun x e => s _ (h.two x e), h.most⟩

/-! ### where they stand -/
def RowAt (H : Hp) (t : Addr) (r : Row) : Prop := H t = some (.tup (rowV r))
abbrev RowsIn (H : Hp) (as : List Addr) (rs : List Row) : Prop := Paired (RowAt H) as rs
theorem rows_keep {H H' : Hp} {as : List Addr} {rs : List Row} (h : RowsIn H as rs) (k : ∀ t xs, H t = some (.tup xs) → H' t = some (.tup xs)) : RowsIn H' as rs :=
  L2.Paired.mapP h fun t r e => k t _ e
theorem rows_but {p : Addr} {zs : List V} {H H' : Hp} {as : List Addr} {rs : List Row} (h : RowsIn H as rs) (b : But p H H') (e : H p = some (.lst zs)) : RowsIn H' as rs :=
  rows_keep h fun t xs z => b t _ (ne_of z e (by intro q; cases q)) z
theorem rows_same {H H' : Hp} {as : List Addr} {rs : List Row} (h : RowsIn H as rs) (b : Same H H') : RowsIn H' as rs :=
  rows_keep h fun t xs z => b t _ z

/-! ### as data -/
theorem dp_o {K : PySem.W.Frag} {H : Hp} : ∀ o : Option Str, Dp K H (oV o) (oD o)
  | none => .non
  | some x => .str x
theorem dp_row {K : PySem.W.Frag} {H : Hp} {t : Addr} {r : Row} (h : RowAt H t r) : Dp K H (.ref t) (rowD r) :=
  .tup (SqT.of h) (.cons (dp_o _) (.cons (dp_o _) (.cons (.int _) .nil)))
theorem dp_rowsAll {K : PySem.W.Frag} {H : Hp} : ∀ {as : List Addr} {rs : List Row}, RowsIn H as rs → DpAll K H (as.map V.ref) (rs.map rowD)
  | _, _, .nil => .nil
  | _, _, .cons h t => .cons (dp_row h) (dp_rowsAll t)
theorem dp_rows {K : PySem.W.Frag} {H : Hp} {c : Addr} {as : List Addr} {rs : List Row} (h : RowsIn H as rs) (e : SqL K H c (as.map V.ref)) : Dp K H (.ref c) (rowsD rs) :=
  .lst e (dp_rowsAll h)
theorem dp_strs {K : PySem.W.Frag} {H : Hp} : ∀ gs : List Str, DpAll K H (gs.map V.str) (gs.map PyData.str)
  | [] => .nil
  | x :: r => .cons (.str x) (dp_strs r)
theorem dp_gs {K : PySem.W.Frag} {H : Hp} {c : Addr} {gs : List Str} (e : SqL K H c (gs.map V.str)) : Dp K H (.ref c) (gsD gs) := .lst e (dp_strs gs)

/-! ### what is shown of them -/
theorem name_len : ∀ x ∈ names, (reprText x).length ≤ 5 := by decide +kernel
theorem shownAll_map {α : Type} (f : α → PyData) : ∀ l : List α, PyData.shownAll (l.map f) = l.map fun a => (f a).shown
  | [] => rfl
  | a :: l => by
    show (f a).shown :: PyData.shownAll (l.map f) = _
    rw [shownAll_map f l]
    rfl
theorem showableAll_map {α : Type} (f : α → PyData) : ∀ l : List α, (∀ a ∈ l, (f a).showable = true) → PyData.showableAll (l.map f) = true
  | [], _ => rfl
  | a :: l, h => by
    show ((f a).showable && PyData.showableAll (l.map f)) = true
    rw [h a List.mem_cons_self, showableAll_map f l fun b hb => h b (List.mem_cons_of_mem _ hb)]
    rfl
theorem hasDictAll_map {α : Type} (f : α → PyData) : ∀ l : List α, (∀ a ∈ l, (f a).hasDict = false) → PyData.hasDictAll (l.map f) = false
  | [], _ => rfl
  | a :: l, h => by
    show ((f a).hasDict || PyData.hasDictAll (l.map f)) = false
    rw [h a List.mem_cons_self, hasDictAll_map f l fun b hb => h b (List.mem_cons_of_mem _ hb)]
    rfl
theorem depthAll_map {α : Type} (f : α → PyData) (n : Nat) : ∀ l : List α, (∀ a ∈ l, (f a).depth ≤ n) → PyData.depthAll (l.map f) ≤ n
  | [], _ => Nat.zero_le _
  | a :: l, h => by
    show max (f a).depth (PyData.depthAll (l.map f)) ≤ n
    have := h a List.mem_cons_self
    have := depthAll_map f n l fun b hb => h b (List.mem_cons_of_mem _ hb)
    omega
theorem sum_le {α : Type} (f : α → Nat) (n : Nat) : ∀ l : List α, (∀ a ∈ l, f a ≤ n) → (l.map f).sum ≤ n * l.length
  | [], _ => Nat.zero_le _
  | a :: l, h => by
    have h1 := h a List.mem_cons_self
    have h2 := sum_le f n l fun b hb => h b (List.mem_cons_of_mem _ hb)
    rw [List.map_cons, List.sum_cons, List.length_cons, Nat.mul_succ]
    omega
/-- the facts of one thing that is shown -/
structure Sh (d : PyData) (n k : Nat) : Prop where
  ok : d.showable = true
  nd : d.hasDict = false
  len : d.shown.length ≤ n
  low : d.depth ≤ k
theorem Sh.shows {d : PyData} {n k : Nat} (h : Sh d n k) (hn : n ≤ 16777216) (hk : k ≤ 8) : Shows d :=
  ⟨h.ok, h.nd, by rw [sizeLine_eq]; exact Nat.le_trans h.len hn, Nat.le_trans h.low hk⟩
theorem sh_o {gs : List Str} (G : GoodGs gs) : ∀ o : Option Str, (∀ x, o = some x → x ∈ gs) → Sh (oD o) 5 0
  | none, _ => ⟨rfl, rfl, by decide +kernel, Nat.le_refl _⟩
  | some x, h => ⟨rfl, rfl, name_len x (G.sub x (h x rfl)), Nat.le_refl _⟩
theorem sh_int {i : Int} (h : i.natAbs ≤ 100) : Sh (.int i) 4 0 := by
  refine ⟨?_, rfl, ?_, Nat.le_refl _⟩
  · show decide (i.natAbs.log2 < 1920) = true
    refine decide_eq_true ?_
    by_cases z : i.natAbs = 0
    · rw [z]; decide
    · exact Nat.lt_of_lt_of_le ((Nat.log2_lt z).mpr (by omega : i.natAbs < 2 ^ 7)) (by decide)
  · show (Str.ofString (toString i)).length ≤ 4
    have q : (toString i).length ≤ 3 + 1 := int_text_length_le10 (k := 3) (by decide) (by omega)
    have e := PySem.ofString_length (toString i)
    omega
theorem sh_row {gs : List Str} (G : GoodGs gs) {r : Row} (h : GoodRow gs r) : Sh (rowD r) 23 1 := by
  have a := sh_o G r.1 h.one
  have b := sh_o G r.2.1 h.two
  have c := sh_int h.most
  refine ⟨?_, ?_, ?_, ?_⟩
  · show ((oD r.1).showable && ((oD r.2.1).showable && ((PyData.int r.2.2).showable && true))) = true
    rw [a.ok, b.ok, c.ok]; rfl
  · show ((oD r.1).hasDict || ((oD r.2.1).hasDict || ((PyData.int r.2.2).hasDict || false))) = false
    rw [a.nd, b.nd, c.nd]; rfl
  · show (tupleText [(oD r.1).shown, (oD r.2.1).shown, (PyData.int r.2.2).shown]).length ≤ 23
    refine Nat.le_trans (tupleText_len_le _) ?_
    have := a.len; have := b.len; have := c.len
    simp only [List.map_cons, List.map_nil, List.sum_cons, List.sum_nil, List.length_cons, List.length_nil]
    omega
  · show max (oD r.1).depth (max (oD r.2.1).depth (max (PyData.int r.2.2).depth 0)) + 1 ≤ 1
    have := a.low; have := b.low; have := c.low
    omega
theorem sh_list {α : Type} (f : α → PyData) (l : List α) {n k : Nat} (h : ∀ a ∈ l, Sh (f a) n k) : Sh (.list (l.map f)) (n * l.length + 2 * l.length + 3) (k + 1) := by
  refine ⟨showableAll_map f l fun a ha => (h a ha).ok, hasDictAll_map f l fun a ha => (h a ha).nd, ?_, ?_⟩
  · show (listText (PyData.shownAll (l.map f))).length ≤ _
    rw [shownAll_map]
    refine Nat.le_trans (listText_len_le _) ?_
    rw [List.map_map, List.length_map]
    have := sum_le (fun a => (f a).shown.length) n l fun a ha => (h a ha).len
    show (l.map fun a => (f a).shown.length).sum + _ + 3 ≤ _
    omega
  · show PyData.depthAll (l.map f) + 1 ≤ k + 1
    exact Nat.succ_le_succ (depthAll_map f k l fun a ha => (h a ha).low)
theorem sh_gs {gs : List Str} (G : GoodGs gs) : Sh (gsD gs) 31 1 := by
  have z := sh_list PyData.str gs (n := 5) (k := 0) fun x hx => ⟨rfl, rfl, name_len x (G.sub x hx), Nat.le_refl _⟩
  exact ⟨z.ok, z.nd, by have := z.len; have := G.l2; show (PyData.list (gs.map .str)).shown.length ≤ 31; omega, z.low⟩
theorem sh_rows {gs : List Str} (G : GoodGs gs) {rs : List Row} (h : GoodRows gs rs) : Sh (rowsD rs) (25 * rs.length + 3) 2 := by
  have z := sh_list rowD rs (n := 23) (k := 1) fun r hr => sh_row G (h r hr)
  exact ⟨z.ok, z.nd, by have := z.len; show (PyData.list (rs.map rowD)).shown.length ≤ _; omega, z.low⟩
def toldD (gs : List Str) (rs : List Row) : PyData := .list [gsD gs, rowsD rs]
theorem sh_told {gs hs : List Str} (G : GoodGs gs) (p : hs.Perm gs) {rs : List Row} (h : GoodRows gs rs) (hl : rs.length ≤ 1000) : Sh (toldD hs rs) 60000 3 := by
  have a := sh_gs (G.perm p)
  have b := sh_rows G h
  refine ⟨?_, ?_, ?_, ?_⟩
  · show ((gsD hs).showable && ((rowsD rs).showable && true)) = true
    rw [a.ok, b.ok]; rfl
  · show ((gsD hs).hasDict || ((rowsD rs).hasDict || false)) = false
    rw [a.nd, b.nd]; rfl
  · show (listText [(gsD hs).shown, (rowsD rs).shown]).length ≤ _
    refine Nat.le_trans (listText_len_le _) ?_
    have := a.len; have := b.len
    simp only [List.map_cons, List.map_nil, List.sum_cons, List.sum_nil, List.length_cons, List.length_nil]
    omega
  · show max (gsD hs).depth (max (rowsD rs).depth 0) + 1 ≤ 3
    have := a.low; have := b.low
    omega
end KM

set_option Elab.async false
set_option linter.all false
set_option maxRecDepth 100000
set_option maxHeartbeats 4000000
namespace KM
open PySem PySem.Spec PyProof.Rows L2 GL
abbrev sScene : Stmt := top 31
def menu : List (List Str) := [["x"], ["x", "y"], ["oil", "tea"], ["b", "oil", "tea"], ["a", "b", "c"]]
theorem menu_good : ∀ gs ∈ menu, GoodGs gs := by
  intro gs h
  have a : ∀ gs ∈ menu, gs.Nodup ∧ (∀ x ∈ gs, x ∈ names) ∧ 1 ≤ gs.length ∧ gs.length ≤ 4 := by decide +kernel
  obtain ⟨h1, h2, h3, h4⟩ := a gs h
  exact ⟨h1, h2, h3, h4⟩
def zz : Str := "zz"
theorem menu_zz : ∀ gs ∈ menu, GoodGs (gs ++ [zz]) := by
  intro gs h
  have a : ∀ gs ∈ menu, (gs ++ [zz]).Nodup ∧ (∀ x ∈ gs ++ [zz], x ∈ names) ∧ 1 ≤ (gs ++ [zz]).length ∧ (gs ++ [zz]).length ≤ 4 := by decide +kernel
  obtain ⟨h1, h2, h3, h4⟩ := a gs h
  exact ⟨h1, h2, h3, h4⟩
theorem eqv_o : ∀ a b : Option Str, PyData.eqv (oD a) (oD b) = decide (a = b)
  | none, none => by simp [oD, PyData.eqv]
  | none, some _ => by simp [oD, PyData.eqv]
  | some _, none => by simp [oD, PyData.eqv]
  | some x, some y => by
    show (x == y) = decide (some x = some y)
    by_cases h : x = y
    · subst h; simp
    · simp [h]
theorem lay_name : ∀ x ∈ names, PyData.strOk x = true := by decide +kernel
theorem lay_o {gs : List Str} (G : GoodGs gs) : ∀ a : Option Str, (∀ x, a = some x → x ∈ gs) → (oD a).canLay0 = true
  | none, _ => rfl
  | some x, h => lay_name x (G.sub x (h x rfl))
theorem shaped_o {gs : List Str} (G : GoodGs gs) (a : Option Str) (h : ∀ x, a = some x → x ∈ gs) : SeqAt.shaped (oD a) = true := by
  have l := lay_o G a h
  have d : (oD a).depth ≤ 64 := by cases a <;> exact Nat.zero_le _
  show ((oD a).canLay0 && decide ((oD a).depth ≤ 64)) = true
  rw [l, decide_eq_true d]
  rfl
/-- scene(pot, most): goods of the menu, rows of them, most at most -/
def spScene : Sp := fun vs H Q _ => ∃ (p : Addr) (m : Nat), vs = [.ref p, .int (m : Int)] ∧ PotAt H p ∧ m < 100 ∧
  ∀ (gs : List Str) (rs : List Row) (G R t : Addr) (as : List Addr) (H' : Hp), gs ∈ menu → GoodRows gs rs → (∀ r ∈ rs, r.2.2.natAbs ≤ 9) → rs.length ≤ m →
    H t = none → H G = none → H R = none → G ≠ R → H' t = some (.tup [.ref G, .ref R]) → H' G = some (.lst (gs.map V.str)) →
    H' R = some (.lst (as.map V.ref)) → RowsIn H' as rs → PotAt H' p → But p H H' → Q (.ref t) H'
theorem pot_same {H H' : Hp} {p : Addr} (h : PotAt H p) (s : Same H H') : PotAt H' p := by
  obtain ⟨a, b, e, z⟩ := h
  exact ⟨a, b, s _ _ e, z⟩
theorem pot_upd {H : Hp} {p q : Addr} {o : HO} (h : PotAt H p) (n : H q = none) : PotAt (upd H q o) p := by
  obtain ⟨a, b, e, z⟩ := h
  exact ⟨a, b, by rw [upd_ne (ne_of_none e n)]; exact e, z⟩
theorem pot_ne {H : Hp} {p q : Addr} {o : HO} (h : PotAt H p) (n : q ≠ p) : PotAt (upd H q o) p := by
  obtain ⟨a, b, e, z⟩ := h
  exact ⟨a, b, by rw [upd_ne n.symm]; exact e, z⟩
theorem get_map {α β : Type} {f : α → β} {l : List α} {i : Nat} {x : β} (h : (l.map f)[i]? = some x) : ∃ a, l[i]? = some a ∧ x = f a := by
  rw [List.getElem?_map] at h
  cases e : l[i]? with
  | none => rw [e] at h; cases h
  | some a => rw [e] at h; exact ⟨a, rfl, (Option.some.inj h).symm⟩
theorem pt_in {gs : List Str} {i : Nat} {o : Option Str} (h : (gs.map some ++ [none])[i]? = some o) : ∀ x, o = some x → x ∈ gs := by
  intro x e
  subst e
  have m := List.mem_of_getElem? h
  rcases List.mem_append.mp m with m | m
  · obtain ⟨y, hy, e⟩ := List.mem_map.mp m
    cases e
    exact hy
  · simp at m
section
variable {P : Program} {w : World} {K : PySem.W.Frag} {mg : Str → Option Value} {base : Heap}
theorem scScene : FnScope ["_law_pot_here", "_law_most", "_law_goods", "_law_points", "_law_found", "_law_turn", "_law_one", "_law_other"] ["_law_pot_here", "_law_most"] (defScope sScene) :=
  ⟨rfl, rfl, rfl, by decide +kernel, rfl, by decide +kernel, by decide +kernel⟩
theorem ok_scene {f : Addr} {fd : FuncData} (F : Fun K "_law_scene" "_law_scene" sScene f fd) (T : Bi mg)
    (D : Has P w K mg base "_law_draw" 1 ["_law_pot_here", "_law_many"] spDraw) (I : Has P w K mg base "_law_pick" 2 ["_law_pot_here", "_law_some"] (spPick K)) :
    FnG P w K mg base CX0 3 f fd ["_law_pot_here", "_law_most"] spScene := by
  refine okG F scScene (fun vs H Q E h => ?_) (fun cdv A out s H vs Q E g hr h => ?_)
  · obtain ⟨p, m, rfl, _⟩ := h
    rfl
  · obtain ⟨p, m, rfl, hp, hm, q⟩ := h
    have hr1 : Room 1 _ := hr.mono (by decide)
    have hu := hr.units
    refine ⟨_, pss_cons (ps_set (i := 2) scScene.nd rfl (.inl rfl) (pe_has I g hr (by rfl) (pa_cons (pv 0) (pa_cons
          (pe_lstL (pa_cons (pe_lstL (pa_cons pe_str pa_nil)) (pa_cons (pe_lstL (pa_cons pe_str (pa_cons pe_str pa_nil))) (pa_cons (pe_lstL (pa_cons pe_str (pa_cons pe_str pa_nil)))
            (pa_cons (pe_lstL (pa_cons pe_str (pa_cons pe_str (pa_cons pe_str pa_nil)))) (pa_cons (pe_lstL (pa_cons pe_str (pa_cons pe_str (pa_cons pe_str pa_nil)))) pa_nil)))))) pa_nil))))
      (pss_cons (ps_par (i := 3) (j := 4) (by rfl) scScene.nd rfl rfl (by decide) rfl rfl
        (pa_cons (pe_op op_catL (pv 2) (pe_lstL (pa_cons pe_non pa_nil))) (pa_cons (pe_lstL pa_nil) pa_nil)) (by rfl))
      (pss_cons (ps_for PassesOwn.never rfl (pi_range1 (by rfl) T.range (pa_cons (pe_has D g hr1 (by rfl) (pa_cons (pv 0) (pa_cons (pe_op op_add (pv 1) pe_int) pa_nil))) pa_nil)) (pg_name (i := 5) scScene.nd rfl (.inl rfl))
        (pss_cons (ps_par (i := 6) (j := 7) (by rfl) scScene.nd rfl rfl (by decide) rfl rfl
          (pa_cons (pe_has I g hr (by rfl) (pa_cons (pv 0) (pa_cons (pv 3) pa_nil))) (pa_cons (pe_has I g hr (by rfl) (pa_cons (pv 0) (pa_cons (pv 3) pa_nil))) pa_nil)) (by rfl))
        (pss_one (ps_if (pt_cmpR (op_neD hu) (pv 6) (pv 7) (nomark _))
          (pss_one (ps_expr (pe_bm PySem.F.plainAttrs_list PySem.F.slot_list_append PySem.F.type_list_append mt_appL (pv 4) (pa_cons
            (pe_tupL (pa_cons (pv 6) (pa_cons (pv 7) (pa_cons (pe_has I g hr (by rfl) (pa_cons (pv 0) (pa_cons (pe_lstL (pa_cons pe_int (pa_cons pe_int (pa_cons pe_int (pa_cons pe_int (pa_cons pe_int
              (pa_cons (pe_un un_neg pe_int) (pa_cons (pe_un un_neg pe_int) (pa_cons (pe_has D g hr1 (by rfl) (pa_cons (pv 0) (pa_cons pe_int pa_nil))) pa_nil))))))))) pa_nil))) pa_nil)))) pa_nil)))) pss_nil))))
      (pss_one (ps_ret (pe_tupL (pa_cons (pv 2) (pa_cons (pv 4) pa_nil))))))), ?_⟩
    refine ⟨_, rfl, by show 1 ≤ sizeLine; decide, fun a1 H1 n1 e1 s1 => ⟨by show 2 ≤ sizeLine; decide, fun a2 H2 n2 e2 s2 => ⟨by show 2 ≤ sizeLine; decide, fun a3 H3 n3 e3 s3 =>
      ⟨by show 3 ≤ sizeLine; decide, fun a4 H4 n4 e4 s4 => ⟨by show 3 ≤ sizeLine; decide, fun a5 H5 n5 e5 s5 => ⟨by show 5 ≤ sizeLine; decide, fun a6 H6 n6 e6 s6 => ?_⟩⟩⟩⟩⟩⟩
    have t2 : Same H H2 := s1.trans s2
    have t3 : Same H H3 := t2.trans s3
    have t4 : Same H H4 := t3.trans s4
    have t5 : Same H H5 := t4.trans s5
    have t6 : Same H H6 := t5.trans s6
    have hp6 : PotAt H6 p := pot_same hp t6
    obtain ⟨x0, y0, hpp, _⟩ := id hp
    have np : ∀ {a : Addr}, H a = none → a ≠ p := fun h z => by rw [z, hpp] at h; cases h
    refine ⟨rfl, rfl, p, a6, _, rfl, hp6, SqL.of e6, np (t5.free n6), by show 0 < 5; decide, by show 5 < 1048576; decide, ?_⟩
    intro i x H7 hx hp7 b7
    have pickd : ∃ G gs, x = .ref G ∧ gs ∈ menu ∧ H7 G = some (.lst (gs.map V.str)) ∧ H G = none := by
      match i, hx with
      | 0, hx => cases hx; exact ⟨a1, ["x"], rfl, by decide, b7 _ _ (np n1) (s6 _ _ (s5 _ _ (s4 _ _ (s3 _ _ (s2 _ _ e1))))), n1⟩
      | 1, hx => cases hx; exact ⟨a2, ["x", "y"], rfl, by decide, b7 _ _ (np (s1.free n2)) (s6 _ _ (s5 _ _ (s4 _ _ (s3 _ _ e2)))), s1.free n2⟩
      | 2, hx => cases hx; exact ⟨a3, ["oil", "tea"], rfl, by decide, b7 _ _ (np (t2.free n3)) (s6 _ _ (s5 _ _ (s4 _ _ e3))), t2.free n3⟩
      | 3, hx => cases hx; exact ⟨a4, ["b", "oil", "tea"], rfl, by decide, b7 _ _ (np (t3.free n4)) (s6 _ _ (s5 _ _ e4)), t3.free n4⟩
      | 4, hx => cases hx; exact ⟨a5, ["a", "b", "c"], rfl, by decide, b7 _ _ (np (t4.free n5)) (s6 _ _ e5), t4.free n5⟩
      | i + 5, hx => simp at hx
    obtain ⟨G, gs, rfl, hgs, eG, nG⟩ := pickd
    have c7 : But p H H7 := (But.of t6).trans b7
    have GG := menu_good gs hgs
    clear hx n1 n2 n3 n4 n5 n6 e1 e2 e3 e4 e5 e6 s1 s2 s3 s4 s5 s6 t2 t3 t4 t5 t6 hp6 b7
    -- points, found = (goods + [None], [])
    refine ⟨_, rfl, by show 1 ≤ sizeLine; decide, fun b1 J1 m1 f1 u1 => ⟨G, b1, gs.map V.str, [.non], rfl, rfl, u1 _ _ eG, f1, by rw [List.length_map]; have := GG.l2; show gs.length + 1 ≤ sizeLine; rw [sizeLine_eq]; omega,
      fun Pt J2 m2 f2 u2 => ⟨by show 0 ≤ sizeLine; decide, fun R J3 m3 f3 u3 => ⟨_, _, rfl, ?_⟩⟩⟩⟩
    have hp3 : PotAt J3 p := pot_same (pot_same (pot_same hp7 u1) u2) u3
    have v1 : Same H7 J3 := (u1.trans u2).trans u3
    have c3 : But p H J3 := c7.trans (But.of v1)
    obtain ⟨x7, y7, hpp7, _⟩ := id hp7
    have nR7 : H7 R = none := (u1.trans u2).free m3
    have nR : H R = none := back_but c7 nR7 (ne_some nR7 hpp7)
    have hGR : G ≠ R := ne_of_none eG nR7
    have hPR : Pt ≠ R := ne_of_none f2 m3
    have nP7 : H7 Pt = none := u1.free m2
    have hPp : Pt ≠ p := ne_some nP7 hpp7
    have hGp : G ≠ p := ne_some nG hpp
    have hRp : R ≠ p := ne_some nR hpp
    -- for turn in range(draw(pot, most + 1))
    refine ⟨_, rfl, _, rfl, _, _, rfl, rfl, rfl, rfl, p, _, rfl, hp3, by omega, by omega, fun d H8 d0 d1 hp8 b8 => ⟨d, rfl, by omega, by omega, ?_⟩⟩
    have pts : gs.map V.str ++ [V.non] = (gs.map some ++ [none]).map oV := by simp [oV]
    refine for_range (n := d.toNat) (fun i σ H' => ∃ (as : List Addr) (rs : List Row) (tv ov wv : Option V), σ = [some (.ref p), some (.int m), some (.ref G), some (.ref Pt), some (.ref R), tv, ov, wv] ∧
      H' G = some (.lst (gs.map V.str)) ∧ H' Pt = some (.lst ((gs.map some ++ [none]).map oV)) ∧ H' R = some (.lst (as.map V.ref)) ∧ RowsIn H' as rs ∧ GoodRows gs rs ∧ (∀ r ∈ rs, r.2.2.natAbs ≤ 9) ∧ rs.length ≤ i ∧ PotAt H' p ∧ But p H H') ?_ ?_ ?_
    · refine ⟨[], [], none, none, none, rfl, b8 _ _ hGp (v1 _ _ eG), ?_, b8 _ _ hRp f3, .nil, fun r h => (by cases h), fun r h => (by cases h), Nat.le_refl _, hp8, c3.trans b8⟩
      rw [← pts]
      exact b8 _ _ hPp (u3 _ _ f2)
    · rintro i σ H' hi ⟨as, rs, tv, ov, wv, rfl, kG, kP, kR, rows, good, low, len, pot, but⟩
      have lp : ((gs.map some ++ [none]).map oV).length = gs.length + 1 := by simp
      have l2 := GG.l2
      refine ⟨_, rfl, _, rfl, rfl, rfl, p, Pt, _, rfl, pot, SqL.of kP, hPp, by omega, by omega, fun i1 x1 H1 hx1 hp1 b1 => ?_⟩
      refine ⟨_, rfl, _, rfl, rfl, rfl, p, Pt, _, rfl, hp1, SqL.of (b1 _ _ hPp kP), hPp, by omega, by omega, fun i2 x2 H2 hx2 hp2 b2 => ⟨_, _, rfl, ?_⟩⟩
      obtain ⟨o1, q1, rfl⟩ := get_map hx1
      obtain ⟨o2, q2, rfl⟩ := get_map hx2
      have w1 := pt_in q1
      have w2 := pt_in q2
      have b12 := b1.trans b2
      obtain ⟨z0, z1, hpp0, _⟩ := id pot
      have rows2 : RowsIn H2 as rs := rows_but rows b12 hpp0
      have kG2 := b12 _ _ hGp kG
      have kP2 := b12 _ _ hPp kP
      have kR2 := b12 _ _ hRp kR
      refine ⟨_, rfl, _, rfl, oD o1, oD o2, dp_o _, dp_o _, shaped_o GG _ w1, shaped_o GG _ w2, _, rfl, ?_⟩
      rw [eqv_o]
      refine ite2 (fun c => ?_) (fun c => ?_)
      · have hne : o1 ≠ o2 := by simpa using c
        refine ⟨_, rfl, .inl ⟨rfl, _, SqL.of kR2⟩, _, rfl, _, rfl, _, rfl, _, rfl, _, rfl, _, rfl, rfl, rfl, p, _, rfl, hp2, by decide, by decide, fun d4 H4 e0 e1 hp4 b4 => ?_⟩
        refine ⟨by show 8 ≤ sizeLine; decide, fun L H5 nL eL sL => ⟨rfl, rfl, p, L, _, rfl, pot_same hp4 sL, SqL.of eL, ?_, by show 0 < 8; decide, by show 8 < 1048576; decide, fun i6 x6 H6 hx6 hp6 b6 => ?_⟩⟩
        · obtain ⟨_, _, hq, _⟩ := id hp4
          exact ne_some nL hq
        · have pk : ∃ k : Int, x6 = .int k ∧ k.natAbs ≤ 9 := by
            match i6, hx6 with
            | 0, hx => cases hx; exact ⟨0, rfl, by decide⟩
            | 1, hx => cases hx; exact ⟨1, rfl, by decide⟩
            | 2, hx => cases hx; exact ⟨2, rfl, by decide⟩
            | 3, hx => cases hx; exact ⟨3, rfl, by decide⟩
            | 4, hx => cases hx; exact ⟨5, rfl, by decide⟩
            | 5, hx => cases hx; exact ⟨-1, rfl, by decide⟩
            | 6, hx => cases hx; exact ⟨-2, rfl, by decide⟩
            | 7, hx => cases hx; exact ⟨d4, rfl, by omega⟩
            | i + 8, hx => simp at hx
          obtain ⟨k6, rfl, hk⟩ := pk
          have b46 : But p H2 H6 := (b4.trans (But.of sL)).trans b6
          refine ⟨by show 3 ≤ sizeLine; decide, fun t H7 nt et st => ?_⟩
          have b27 : But p H2 H7 := b46.trans (But.of st)
          obtain ⟨z2, z3, hpp2, _⟩ := id hp2
          have rows7 := rows_but rows2 b27 hpp2
          have kR7 := b27 _ _ hRp kR2
          have tR : t ≠ R := ne_of et kR7 (by intro q; cases q)
          have lenA : as.length = rs.length := Paired.length rows
          refine ⟨R, as.map V.ref, .ref t, rfl, rfl, kR7, by rw [List.length_map]; exact small1000 (by simp at hi; omega), fun H8' e8 c8 => ?_⟩
          have b28 : ∀ a o, a ≠ p → a ≠ R → H2 a = some o → H8' a = some o := fun a o n1 n2 e => c8 _ _ n2 (b27 _ _ n1 e)
          refine ⟨as ++ [t], rs ++ [(o1, o2, k6)], _, _, _, rfl, b28 _ _ hGp hGR kG2, b28 _ _ hPp hPR kP2, by rw [e8]; simp, ?_, ?_, ?_, by simp; omega, ?_, ?_⟩
          · exact Paired.snoc (rows_keep rows7 fun u xs e => c8 _ _ (ne_of e kR7 (by intro q; cases q)) e) (c8 _ _ tR et)
          · intro r hr
            rcases List.mem_append.mp hr with hr | hr
            · exact good r hr
            · rw [List.mem_singleton.mp hr]
              exact ⟨hne, w1, w2, by show k6.natAbs ≤ 100; omega⟩
          · intro r hr
            rcases List.mem_append.mp hr with hr | hr
            · exact low r hr
            · rw [List.mem_singleton.mp hr]
              exact hk
          · obtain ⟨a, b, e, z⟩ := pot_same hp6 st
            exact ⟨a, b, c8 _ _ hRp.symm e, z⟩
          · intro a o ha e
            have z := b27 _ _ ha (b12 _ _ ha (but _ _ ha e))
            exact c8 _ _ (ne_of_none e nR) z
      · exact ⟨as, rs, _, _, _, rfl, kG2, kP2, kR2, rows2, good, low, by omega, hp2, but.trans b12⟩
    · rintro σ H' ⟨as, rs, tv, ov, wv, rfl, kG, kP, kR, rows, good, low, len, pot, but⟩
      refine ⟨_, rfl, _, rfl, by show 2 ≤ sizeLine; decide, fun t H9 n9 e9 s9 => ?_⟩
      obtain ⟨x8, y8, hpp8, _⟩ := id pot
      exact q gs rs G R t as H9 hgs good low (by omega) (back_but but n9 (ne_some n9 hpp8)) nG nR hGR e9 (s9 _ _ kG) (s9 _ _ kR) (rows_same rows s9) (pot_same pot s9) (but.trans (But.of s9))
end
end KM

set_option Elab.async false
set_option linter.all false
namespace KM
open PySem PySem.Spec PyProof.Rows L2 GL
abbrev leS (a b : Str) : Prop := a.cps.toList ≤ b.cps.toList
theorem leS_of {a b : Str} (h : ltCps b.cps.toList a.cps.toList = false) : leS a b := by
  rw [ltCps_eq] at h
  exact List.not_lt.mp (of_decide_eq_false h)
theorem rising_pair : ∀ (p : Str) (l : List Str), risingS p l = true → (p :: l).Pairwise leS
  | p, [], _ => List.pairwise_singleton _ _
  | p, x :: r, h => by
    have h' : (!ltCps x.cps.toList p.cps.toList && risingS x r) = true := h
    rw [Bool.and_eq_true, Bool.not_eq_true'] at h'
    have ih := rising_pair x r h'.2
    have l1 : leS p x := leS_of h'.1
    refine List.pairwise_cons.mpr ⟨fun y hy => ?_, ih⟩
    rcases List.mem_cons.mp hy with e | hy
    · rw [e]; exact l1
    · exact List.le_trans l1 ((List.pairwise_cons.mp ih).1 y hy)
theorem sorted_pair : ∀ l : List Str, sortedS l = true → l.Pairwise leS
  | [], _ => .nil
  | x :: r, h => rising_pair x r h
theorem cps_inj {a b : Str} (h : a.cps.toList = b.cps.toList) : a = b := by
  obtain ⟨x⟩ := a
  obtain ⟨y⟩ := b
  have : x = y := by
    have e := congrArg List.toArray h
    simpa using e
  rw [this]
/-- there is one sorted list of the same texts -/
theorem sorted_one {l m : List Str} (p : l.Perm m) (hl : sortedS l = true) (hm : sortedS m = true) : l = m :=
  List.Perm.eq_of_pairwise (fun a b _ _ h1 h2 => cps_inj (List.le_antisymm h1 h2)) (sorted_pair l hl) (sorted_pair m hm) p
end KM

set_option Elab.async false
set_option linter.all false
set_option maxRecDepth 100000
set_option maxHeartbeats 4000000
namespace KM
open PySem PySem.Spec PyProof.Rows L2 GL

/-! ### Moves as they stand, and what their methods promise -/
/-- the attributes, as __init__ stores them -/
def flds (g c : Addr) : List (Str × V) := putF "_conditions" (.ref c) (putF "_goods" (.ref g) [])
/-- Moves of the sorted goods gs and the conditions rs stand at m -/
def MovesAt (C : Addr) (H : Hp) (m : Addr) (gs : List Str) (rs : List Row) : Prop :=
  ∃ dx g c as, H m = some (.ins C dx (flds g c)) ∧ H g = some (.lst (gs.map V.str)) ∧ H c = some (.lst (as.map V.ref)) ∧ RowsIn H as rs
/-- what is good: goods of the names, sorted; conditions on them; not too many -/
structure Fit (gs : List Str) (rs : List Row) : Prop where
  g : GoodGs gs
  s : sortedS gs = true
  r : GoodRows gs rs
  n : rs.length ≤ 24
theorem MovesAt.same {C : Addr} {H H' : Hp} {m : Addr} {gs : List Str} {rs : List Row} (h : MovesAt C H m gs rs) (s : Same H H') : MovesAt C H' m gs rs := by
  obtain ⟨dx, g, c, as, e1, e2, e3, e4⟩ := h
  exact ⟨dx, g, c, as, s _ _ e1, s _ _ e2, s _ _ e3, rows_same e4 s⟩
theorem MovesAt.but {C : Addr} {H H' : Hp} {m p : Addr} {gs : List Str} {rs : List Row} (h : MovesAt C H m gs rs) (hp : PotAt H p) (b : But p H H') : MovesAt C H' m gs rs := by
  obtain ⟨dx, g, c, as, e1, e2, e3, e4⟩ := h
  obtain ⟨x, y, e, _⟩ := hp
  refine ⟨dx, g, c, as, b _ _ (ne_of e1 e (by intro q; cases q)) e1, b _ _ (ne_of e2 e ?_) e2, b _ _ (ne_of e3 e ?_) e3, rows_but e4 b e⟩
  · intro q
    cases gs with
    | nil => cases q
    | cons a r => cases q
  · intro q
    cases as with
    | nil => cases q
    | cons a r => cases q
theorem MovesAt.ins {C : Addr} {H : Hp} {m : Addr} {gs : List Str} {rs : List Row} (h : MovesAt C H m gs rs) : ∃ dx fs, H m = some (.ins C dx fs) ∧
    ∀ nm : Str, ¬ nm = "_conditions" → ¬ nm = "_goods" → fs.lookup nm = none := by
  obtain ⟨dx, g, c, as, e1, _⟩ := h
  refine ⟨dx, _, e1, fun nm h1 h2 => ?_⟩
  unfold flds
  rw [lookup_putF, if_neg h1, lookup_putF, if_neg h2]
  rfl

/-- new Moves: their lists are new as well -/
def MovesNew (C : Addr) (H H' : Hp) (m : Addr) (gs : List Str) (rs : List Row) : Prop :=
  ∃ dx g c as, H' m = some (.ins C dx (flds g c)) ∧ H' g = some (.lst (gs.map V.str)) ∧ H' c = some (.lst (as.map V.ref)) ∧ RowsIn H' as rs ∧ H g = none ∧ H c = none
theorem MovesNew.at {C : Addr} {H H' : Hp} {m : Addr} {gs : List Str} {rs : List Row} (h : MovesNew C H H' m gs rs) : MovesAt C H' m gs rs := by
  obtain ⟨dx, g, c, as, e1, e2, e3, e4, _⟩ := h
  exact ⟨dx, g, c, as, e1, e2, e3, e4⟩
/-- a list that stood ahead of them is changed -/
theorem MovesNew.put {C : Addr} {H H1 H2 : Hp} {m p : Addr} {zs ys : List V} {gs : List Str} {rs : List Row} (h : MovesNew C H H1 m gs rs) (e : H p = some (.lst zs)) (e' : H1 p = some (.lst ys)) (b : But p H1 H2) :
    MovesNew C H H2 m gs rs := by
  obtain ⟨dx, g, c, as, e1, e2, e3, e4, n1, n2⟩ := h
  exact ⟨dx, g, c, as, b _ _ (ne_of e1 e' (by intro q; cases q)) e1, b _ _ (ne_some n1 e) e2, b _ _ (ne_some n2 e) e3, rows_but e4 b e', n1, n2⟩
/-- Moves whose lists are not E -/
def MovesOff (C E : Addr) (H : Hp) (m : Addr) (gs : List Str) (rs : List Row) : Prop :=
  ∃ dx g c as, H m = some (.ins C dx (flds g c)) ∧ H g = some (.lst (gs.map V.str)) ∧ H c = some (.lst (as.map V.ref)) ∧ RowsIn H as rs ∧ g ≠ E ∧ c ≠ E
theorem MovesOff.at {C E : Addr} {H : Hp} {m : Addr} {gs : List Str} {rs : List Row} (h : MovesOff C E H m gs rs) : MovesAt C H m gs rs := by
  obtain ⟨dx, g, c, as, e1, e2, e3, e4, _⟩ := h
  exact ⟨dx, g, c, as, e1, e2, e3, e4⟩
theorem MovesOff.same {C E : Addr} {H H' : Hp} {m : Addr} {gs : List Str} {rs : List Row} (h : MovesOff C E H m gs rs) (s : Same H H') : MovesOff C E H' m gs rs := by
  obtain ⟨dx, g, c, as, e1, e2, e3, e4, n⟩ := h
  exact ⟨dx, g, c, as, s _ _ e1, s _ _ e2, s _ _ e3, rows_same e4 s, n⟩
theorem MovesOff.but {C E : Addr} {H H' : Hp} {m p : Addr} {gs : List Str} {rs : List Row} (h : MovesOff C E H m gs rs) (hp : PotAt H p) (b : But p H H') : MovesOff C E H' m gs rs := by
  obtain ⟨dx, g, c, as, e1, e2, e3, e4, n⟩ := h
  obtain ⟨x, y, e, _⟩ := hp
  refine ⟨dx, g, c, as, b _ _ (ne_of e1 e (by intro q; cases q)) e1, b _ _ (ne_of e2 e ?_) e2, b _ _ (ne_of e3 e ?_) e3, rows_but e4 b e, n⟩
  · intro q
    cases gs with
    | nil => cases q
    | cons a r => cases q
  · intro q
    cases as with
    | nil => cases q
    | cons a r => cases q
theorem MovesOff.put {C E : Addr} {H H' : Hp} {m : Addr} {zs : List V} {gs : List Str} {rs : List Row} (h : MovesOff C E H m gs rs) (e : H E = some (.lst zs)) (b : But E H H') : MovesOff C E H' m gs rs := by
  obtain ⟨dx, g, c, as, e1, e2, e3, e4, n1, n2⟩ := h
  exact ⟨dx, g, c, as, b _ _ (ne_of e1 e (by intro q; cases q)) e1, b _ _ n1 e2, b _ _ n2 e3, rows_but e4 b e, n1, n2⟩
theorem MovesNew.off {C E : Addr} {H H' : Hp} {m : Addr} {o : HO} {gs : List Str} {rs : List Row} (h : MovesNew C H H' m gs rs) (e : H E = some o) : MovesOff C E H' m gs rs := by
  obtain ⟨dx, g, c, as, e1, e2, e3, e4, n1, n2⟩ := h
  exact ⟨dx, g, c, as, e1, e2, e3, e4, ne_some n1 e, ne_some n2 e⟩
theorem MovesAt.off {C E : Addr} {H : Hp} {m : Addr} {gs : List Str} {rs : List Row} (h : MovesAt C H m gs rs) (n : H E = none) : MovesOff C E H m gs rs := by
  obtain ⟨dx, g, c, as, e1, e2, e3, e4⟩ := h
  exact ⟨dx, g, c, as, e1, e2, e3, e4, (ne_some n e2).symm, (ne_some n e3).symm⟩
def spGoods (C : Addr) : Sp := fun vs H Q _ => ∃ m gs rs, vs = [.ref m] ∧ MovesAt C H m gs rs ∧ NewK H (.lst (gs.map V.str)) Q
def spConds (C : Addr) : Sp := fun vs H Q _ => ∃ m gs rs, vs = [.ref m] ∧ MovesAt C H m gs rs ∧
  ∀ (L : Addr) (as : List Addr) (H' : Hp), H L = none → H' L = some (.lst (as.map V.ref)) → RowsIn H' as rs → Same H H' → Q (.ref L) H'
def spLen (C : Addr) : Sp := fun vs H Q _ => ∃ m gs rs, vs = [.ref m] ∧ MovesAt C H m gs rs ∧ ∀ H', Same H H' → Q (.int rs.length) H'
def reprM (gs : List Str) (rs : List Row) : Str := ("Moves(" : Str) ++ (gsD gs).shown ++ (", " : Str) ++ (rowsD rs).shown ++ (")" : Str)
def spRepr (C : Addr) : Sp := fun vs H Q _ => ∃ m gs rs, vs = [.ref m] ∧ MovesAt C H m gs rs ∧ Fit gs rs ∧ ∀ H', Same H H' → Q (.str (reprM gs rs)) H'
/-- no Moves: a list, a tuple, None, a number, a text -/
def NoMoves (K : PySem.W.Frag) (H : Hp) (y : V) : Prop := (∃ a xs, y = .ref a ∧ (H a = some (.lst xs) ∨ H a = some (.tup xs))) ∨ y = .non ∨ (∃ i, y = .int i) ∨ (∃ z, y = .str z)
def spEq (K : PySem.W.Frag) (C : Addr) : Sp := fun vs H Q _ => ∃ m gs rs y, vs = [.ref m, y] ∧ MovesAt C H m gs rs ∧ Fit gs rs ∧
  ((∃ m2 gs2 rs2, y = .ref m2 ∧ MovesAt C H m2 gs2 rs2 ∧ Fit gs2 rs2 ∧ ∀ H', Same H H' → Q (.bl (decide (gs = gs2 ∧ rs = rs2))) H') ∨
    (NoMoves K H y ∧ ∀ H', Same H H' → Q (.bl false) H'))
def spAdd (C : Addr) : Sp := fun vs H Q _ => ∃ m t gs rs r, vs = [.ref m, .ref t] ∧ MovesAt C H m gs rs ∧ Fit gs rs ∧ RowAt H t r ∧ GoodRow gs r ∧ rs.length < 24 ∧
  ∀ x H', H x = none → Same H H' → MovesNew C H H' x gs (rs ++ [r]) → Q (.ref x) H'
def spWithout (C : Addr) : Sp := fun vs H Q _ => ∃ m gs rs, ∃ i : Nat, vs = [.ref m, .int i] ∧ MovesAt C H m gs rs ∧ Fit gs rs ∧ i < rs.length ∧
  ∀ x H', H x = none → Same H H' → MovesNew C H H' x gs (rs.take i ++ rs.drop (i + 1)) → Q (.ref x) H'
def less1 (r : Row) : Row := (r.1, r.2.1, r.2.2 - 1)
def spTight (C : Addr) : Sp := fun vs H Q _ => ∃ m gs rs r, ∃ i : Nat, vs = [.ref m, .int i] ∧ MovesAt C H m gs rs ∧ Fit gs rs ∧ rs[i]? = some r ∧ r.2.2.natAbs < 100 ∧
  ∀ x H', H x = none → Same H H' → MovesNew C H H' x gs (rs.take i ++ [less1 r] ++ rs.drop (i + 1)) → Q (.ref x) H'
/-- Moves(goods, conditions): the goods in any sequence -/
def spInit (K : PySem.W.Frag) (C : Addr) : Sp := fun vs H Q _ => ∃ x dx G D gs as rs, vs = [.ref x, .ref G, .ref D] ∧ H x = some (.ins C dx []) ∧
  (SqL K H G (gs.map V.str) ∨ SqT K H G (gs.map V.str)) ∧ (SqL K H D (as.map V.ref) ∨ SqT K H D (as.map V.ref)) ∧ RowsIn H as rs ∧ GoodGs gs ∧ GoodRows gs rs ∧ rs.length ≤ 24 ∧
  ∀ hs H', hs.Perm gs → sortedS hs = true → MovesNew C H H' x hs rs → (∀ a o, a ≠ x → H a = some o → H' a = some o) → Q .non H'

/-- what the law's text needs of the class -/
structure Mv (P : Program) (w : World) (K : PySem.W.Frag) (mg : Str → Option Value) (base : Heap) (C : Addr) : Prop where
  gM : mg "Moves" = some (.ref C)
  cl : Cls K C
  mk2 : HasC P w K mg base C 6 ["self", "goods", "conditions"] (spInit K C) 2 [] (fun vs _ => vs)
  mk1 : ∃ T, SqT K (fun _ => none) T [] ∧ HasC P w K mg base C 6 ["self", "goods", "conditions"] (spInit K C) 1 [] (fun vs _ => vs ++ [.ref T])
  mkK : HasC P w K mg base C 6 ["self", "goods", "conditions"] (spInit K C) 0 ["conditions", "goods"] (fun vs zs => vs ++ zs.reverse)
  goods : HasM P w K mg base C "goods" 1 ["self"] (spGoods C)
  conds : HasM P w K mg base C "conditions" 1 ["self"] (spConds C)
  len : HasM P w K mg base C "__len__" 1 ["self"] (spLen C)
  repr : HasM P w K mg base C "__repr__" 1 ["self"] (spRepr C)
  eq : HasM P w K mg base C "__eq__" 1 ["self", "other"] (spEq K C)
  add : HasM P w K mg base C (PySem.dunder "add") 8 ["self", "other"] (spAdd C)
  wo : HasMK P w K mg base C "without" 8 ["self", "position"] (spWithout C) 1 ["position"] (fun vs zs => vs ++ zs)
  ti : HasM P w K mg base C "tightened" 8 ["self", "position"] (spTight C)
  below : Below K C
  eqc : ∃ f N, EqC K C f N ∧ PySem.W.findIn K (.ref C) "__eq__" = some (some (.ref f))
  addc : AddC K C
end KM

set_option Elab.async false
set_option linter.all false
set_option maxRecDepth 100000
set_option maxHeartbeats 4000000
namespace KM
open PySem PySem.Spec PyProof.Rows L2 GL
abbrev sIs : Stmt := top 33
theorem sqt_any {K : PySem.W.Frag} {T : Addr} {xs : List V} (h : SqT K (fun _ => none) T xs) (H : Hp) : SqT K H T xs := by
  rcases h with (h | ⟨o, h⟩) | h
  · cases h
  · cases h
  · exact .inr h
/-- is(moves, goods, rows): True where it is so -/
def spIs (C : Addr) : Sp := fun vs H Q _ => ∃ (m G R : Addr) (gs gs0 : List Str) (rs : List Row) (as : List Addr), vs = [.ref m, .ref G, .ref R] ∧ MovesAt C H m gs rs ∧ Fit gs rs ∧ gs0.Perm gs ∧
  H G = some (.lst (gs0.map V.str)) ∧ H R = some (.lst (as.map V.ref)) ∧ RowsIn H as rs ∧ ∀ H', Same H H' → Q (.bl true) H'
theorem dp_told {K : PySem.W.Frag} {H : Hp} {c g r : Addr} {gs : List Str} {rs : List Row} {as : List Addr} (e : H c = some (.lst [.ref g, .ref r])) (e1 : H g = some (.lst (gs.map V.str)))
    (e2 : H r = some (.lst (as.map V.ref))) (h : RowsIn H as rs) : Dp K H (.ref c) (toldD gs rs) :=
  .lst (SqL.of e) (.cons (dp_gs (SqL.of e1)) (.cons (dp_rows h (SqL.of e2)) .nil))
theorem r_told {C : Addr} {Hc : Hp} {m : Addr} {gs : List Str} {rs : List Row} {σ : L2.St} {i : Nat} {Q : VK} (hσ : σ[i]? = some (some (.ref m))) (hm : MovesAt C Hc m gs rs)
    (h : ∀ L g c as H', Hc L = none → Hc g = none → Hc c = none → g ≠ c → L ≠ g → L ≠ c → H' L = some (.lst [.ref g, .ref c]) → H' g = some (.lst (gs.map V.str)) → H' c = some (.lst (as.map V.ref)) →
      RowsIn H' as rs → Same Hc H' → Q (.ref L) H') :
    tLstL (tCons (tGoM C "goods" 0 0 (spGoods C) (fun vs _ => vs) E0 (tVar i) tNil tNil) (tCons (tGoM C "conditions" 0 0 (spConds C) (fun vs _ => vs) E0 (tVar i) tNil tNil) tNil)) σ Hc Q := by
  obtain ⟨dx, fs, e, l⟩ := hm.ins
  refine ⟨_, hσ, m, dx, fs, rfl, e, l _ (by decide +kernel) (by decide +kernel), rfl, rfl, m, gs, rs, rfl, hm, fun g H1 n1 e1 s1 => ?_⟩
  refine ⟨_, hσ, m, dx, fs, rfl, s1 _ _ e, l _ (by decide +kernel) (by decide +kernel), rfl, rfl, m, gs, rs, rfl, hm.same s1, fun c as H2 n2 e2 rw2 s2 => ?_⟩
  refine ⟨by show 2 ≤ sizeLine; decide, fun L H3 n3 e3 s3 => ?_⟩
  exact h L g c as H3 ((s1.trans s2).free n3) n1 (s1.free n2) (ne_of_none e1 n2) (ne_of_none (s2 _ _ e1) n3).symm (ne_of_none e2 n3).symm e3 (s3 _ _ (s2 _ _ e1)) (s3 _ _ e2) (rows_same rw2 s3) ((s1.trans s2).trans s3)
theorem r_due {K : PySem.W.Frag} {Hc : Hp} {G R : Addr} {gs gs0 : List Str} {σ : L2.St} {i j : Nat} {Q : VK} (h1 : σ[i]? = some (some (.ref G))) (h2 : σ[j]? = some (some (.ref R)))
    (G0 : GoodGs gs) (hs : sortedS gs = true) (pm : gs0.Perm gs) (eG : Hc G = some (.lst (gs0.map V.str)))
    (h : ∀ L g H', Hc L = none → H' L = some (.lst [.ref g, .ref R]) → H' g = some (.lst (gs.map V.str)) → Same Hc H' → Q (.ref L) H') :
    tLstL (tCons (tCB (rSortL K) (tCons (tVar i) tNil)) (tCons (tVar j) tNil)) σ Hc Q := by
  refine ⟨_, h1, G, gs0, rfl, SqL.of eG, ?_, fun ys p1 p2 g H1 n1 e1 s1 => ?_⟩
  · have := pm.length_eq
    have := G0.l2
    omega
  · have z : ys = gs := sorted_one (p1.trans pm) p2 hs
    subst z
    refine ⟨_, h2, by show 2 ≤ sizeLine; decide, fun L H2 n2 e2 s2 => ?_⟩
    exact h L g H2 (s1.free n2) e2 (s2 _ _ e1) (s1.trans s2)
section
variable {P : Program} {w : World} {K : PySem.W.Frag} {mg : Str → Option Value} {base : Heap} {C : Addr}
theorem scIs : FnScope ["_law_moves", "_law_goods", "_law_rows", "_law_turn", "_law_told", "_law_again"] ["_law_moves", "_law_goods", "_law_rows"] (defScope sIs) :=
  ⟨rfl, rfl, rfl, by decide +kernel, rfl, by decide +kernel, by decide +kernel⟩
theorem ok_is {f : Addr} {fd : FuncData} (F : Fun K "_law_is" "_law_is" sIs f fd) (T : Bi mg) (M : Mv P w K mg base C) :
    FnG P w K mg base CX0 9 f fd ["_law_moves", "_law_goods", "_law_rows"] (spIs C) := by
  refine okG F scIs (fun vs H Q E h => ?_) (fun cdv A out s H vs Q E g hr h => ?_)
  · obtain ⟨m, G, R, gs, gs0, rs, as, rfl, _⟩ := h
    rfl
  · obtain ⟨m, G, R, gs, gs0, rs, as, rfl, hm, fit, pm, eG, eR, rows, q⟩ := h
    have hr1 : Room 1 _ := hr.mono (by decide)
    have hr2 : Room 2 _ := hr.mono (by decide)
    have hr7 : Room 7 _ := hr.mono (by decide)
    have hu := hr.units
    refine ⟨_, pss_cons (ps_for PassesOwn.never rfl (pi_range1 (by rfl) T.range (pa_cons pe_int pa_nil)) (pg_name (i := 3) scIs.nd rfl (.inl rfl))
        (pss_cons (ps_set (i := 4) scIs.nd rfl (.inl rfl) (pe_lstL (pa_cons (pe_hasM0 M.goods M.cl g hr1 rfl (pv 0)) (pa_cons (pe_hasM0 M.conds M.cl g hr1 rfl (pv 0)) pa_nil))))
        (pss_cons (ps_if (PW.pt (pw_or (pt_cmpR op_ne (pe_callB (call_repr_D g hu) (by rfl) T.repr (by decide +kernel) (pa_cons (pv 4) pa_nil))
              (pe_callB (call_repr_D g hu) (by rfl) T.repr (by decide +kernel) (pa_cons (pe_lstL (pa_cons (pe_callB call_sortL (by rfl) T.sorted (by decide +kernel) (pa_cons (pv 1) pa_nil)) (pa_cons (pv 2) pa_nil))) pa_nil)) (nomark _))
            (pw_or1 (pt_cmpR op_ne (pe_callB (cr_len M.len g hr2) (by rfl) T.len PySem.boot_len (pa_cons (pv 0) pa_nil)) (pe_callB call_len_seq (by rfl) T.len PySem.boot_len (pa_cons (pv 2) pa_nil)) (nomark _)))))
          (pss_one (ps_ret pe_bl)) pss_nil)
        (pss_cons (ps_expr (pe_bm PySem.F.plainAttrs_list PySem.F.slot_list_append PySem.F.type_list_append mt_appL (pe_ix ix_list (pv 4) pe_int (fun _ _ => rfl)) (pa_cons pe_str pa_nil)))
        (pss_cons (ps_expr (pe_bm0 PySem.F.plainAttrs_list PySem.F.slot_list_reverse PySem.F.type_list_reverse mt_revL (pe_ix ix_list (pv 4) pe_int (fun _ _ => rfl))))
        (pss_one (ps_expr (pe_bm PySem.F.plainAttrs_list PySem.F.slot_list_append PySem.F.type_list_append mt_appL (pe_ix ix_list (pv 4) pe_int (fun _ _ => rfl)) (pa_cons pe_non pa_nil)))))))))
      (pss_cons (ps_set (i := 4) scIs.nd rfl (.inl rfl) (pe_lstL (pa_cons (pe_hasM0 M.goods M.cl g hr1 rfl (pv 0)) (pa_cons (pe_hasM0 M.conds M.cl g hr1 rfl (pv 0)) pa_nil))))
      (pss_cons (ps_set (i := 5) scIs.nd rfl (.inl rfl) (pe_hasC M.mk2 g hr7 (by rfl) M.gM (pa_cons (pe_ix ix_list (pv 4) pe_int (fun _ _ => rfl)) (pa_cons (pe_ix ix_list (pv 4) pe_int (fun _ _ => rfl)) pa_nil)) pk_nil))
      (pss_cons (ps_expr (pe_bm0 PySem.F.plainAttrs_list PySem.F.slot_list_clear PySem.F.type_list_clear mt_clrL (pe_ix ix_list (pv 4) pe_int (fun _ _ => rfl))))
      (pss_cons (ps_expr (pe_bm0 PySem.F.plainAttrs_list PySem.F.slot_list_clear PySem.F.type_list_clear mt_clrL (pe_ix ix_list (pv 4) pe_int (fun _ _ => rfl))))
      (pss_cons (ps_if (PW.pt (pw_or (pt_cmpR (or_ne M.eq M.eqc g hr2) (pv 5) (pv 0) (nomark _))
            (pw_or1 (pt_cmpR op_ne (pe_callB (call_repr_D g hu) (by rfl) T.repr (by decide +kernel) (pa_cons (pe_lstL (pa_cons (pe_hasM0 M.goods M.cl g hr1 rfl (pv 5)) (pa_cons (pe_hasM0 M.conds M.cl g hr1 rfl (pv 5)) pa_nil))) pa_nil))
              (pe_callB (call_repr_D g hu) (by rfl) T.repr (by decide +kernel) (pa_cons (pe_lstL (pa_cons (pe_callB call_sortL (by rfl) T.sorted (by decide +kernel) (pa_cons (pv 1) pa_nil)) (pa_cons (pv 2) pa_nil))) pa_nil)) (nomark _)))))
          (pss_one (ps_ret pe_bl)) pss_nil)
      (pss_one (ps_ret (pe_cmpR op_eq (pe_callB (cr_repr M.repr g hr2) (by rfl) T.repr (by decide +kernel) (pa_cons (pv 0) pa_nil))
        (pe_op op_add_str (pe_op op_add_str (pe_op op_add_str (pe_op op_add_str pe_str (pe_callB (call_repr_D g hu) (by rfl) T.repr (by decide +kernel) (pa_cons (pe_callB call_sortL (by rfl) T.sorted (by decide +kernel) (pa_cons (pv 1) pa_nil)) pa_nil))) pe_str)
          (pe_callB (call_repr_D g hu) (by rfl) T.repr (by decide +kernel) (pa_cons (pv 2) pa_nil))) pe_str) (nomark _))))))))), ?_⟩
    have shT := (sh_told fit.g (.refl _) fit.r (Nat.le_trans fit.n (by decide))).shows (by decide) (by decide)
    have lenR : as.length = rs.length := Paired.length rows
    refine ⟨2, rfl, by decide, by decide, ?_⟩
    refine for_range (n := 2) (fun i σ H' => ∃ tv lv : Option V, σ = [some (.ref m), some (.ref G), some (.ref R), tv, lv, none] ∧ Same H H') ?_ ?_ ?_
    · exact ⟨none, none, rfl, Same.refl' H⟩
    · rintro i σ Hc hi ⟨tv, lv, rfl, sc⟩
      refine r_told rfl (hm.same sc) fun L g1 c1 as1 H1 nL ng nc gc Lg Lc eL eg ec rw1 s1 => ?_
      have sH1 := sc.trans s1
      refine ⟨_, rfl, L, _, rfl, dp_told eL eg ec rw1, shT, ?_⟩
      refine r_due rfl rfl fit.g fit.s pm (sH1 _ _ eG) fun L2 g2 H2 nL2 eL2 eg2 s2 => ?_
      have sH2 := sH1.trans s2
      refine ⟨L2, _, rfl, dp_told eL2 eg2 (sH2 _ _ eR) (rows_same rows sH2), shT, rfl, _, rfl, ?_⟩
      simp only [decide_true, Bool.not_true]
      refine iteF ?_
      obtain ⟨dx, fs, em, _⟩ := (hm.same sH2).ins
      refine ⟨_, rfl, m, dx, fs, rfl, em, ⟨m, gs, rs, rfl, hm.same sH2, fun H3 s3 => ⟨_, rfl, by omega, by have := fit.n; omega, ?_⟩⟩⟩
      have sH3 := sH2.trans s3
      refine ⟨_, rfl, R, _, rfl, .inl (SqL.of (sH3 _ _ eR)), rfl, _, rfl, ?_⟩
      have lz : (as.map V.ref).length = rs.length := by rw [List.length_map, lenR]
      rw [lz]
      simp only [decide_true, Bool.not_true]
      refine iteF ?_
      have eL3 := s3 _ _ (s2 _ _ eL)
      have eg3 := s3 _ _ (s2 _ _ eg)
      have ec3 := s3 _ _ (s2 _ _ ec)
      refine ⟨_, rfl, L, _, 0, .ref g1, rfl, rfl, SqL.of eL3, rfl, .inl ⟨rfl, _, SqL.of eg3⟩, g1, _, _, rfl, rfl, eg3, by rw [List.length_map]; have := fit.g.l2; exact small1000 (by omega), fun H4 e4 b4 => ?_⟩
      have eL4 := b4 _ _ Lg eL3
      have ec4 := b4 _ _ gc.symm ec3
      refine ⟨_, rfl, L, _, 1, .ref c1, rfl, rfl, SqL.of eL4, rfl, .inl ⟨rfl, _, SqL.of ec4⟩, c1, _, rfl, rfl, ec4, fun H5 e5 b5 => ?_⟩
      have eL5 := b5 _ _ Lc eL4
      refine ⟨_, rfl, L, _, 1, .ref c1, rfl, rfl, SqL.of eL5, rfl, .inl ⟨rfl, _, SqL.of e5⟩, c1, _, _, rfl, rfl, e5, by rw [List.length_reverse, List.length_map]; have := Paired.length rw1; have := fit.n; exact small1000 (by omega), fun H6 e6 b6 => ?_⟩
      refine ⟨_, _, rfl, fun a o e => ?_⟩
      have n1 : a ≠ g1 := ne_of_none (sc _ _ e) ng
      have n2 : a ≠ c1 := ne_of_none (sc _ _ e) nc
      exact b6 _ _ n2 (b5 _ _ n2 (b4 _ _ n1 (sH3 _ _ e)))
    · rintro σ Hc ⟨tv, lv, rfl, sc⟩
      refine r_told rfl (hm.same sc) fun L g1 c1 as1 H1 nL ng nc gc Lg Lc eL eg ec rw1 s1 => ?_
      have sH1 := sc.trans s1
      -- again = Moves(told[0], told[1])
      refine ⟨_, rfl, L, _, 0, .ref g1, rfl, rfl, SqL.of eL, rfl, _, rfl, L, _, 1, .ref c1, rfl, rfl, SqL.of eL, rfl, rfl, rfl, fun x dx nx ndx nex => ?_⟩
      have k1 : Same H1 (upd (upd H1 dx (.own x)) x (.ins C dx [])) := fun a o e => by rw [upd_ne (ne_of_none e nx), upd_ne (ne_of_none e ndx)]; exact e
      refine ⟨x, dx, g1, c1, gs, as1, rs, rfl, upd_same, .inl (SqL.of (k1 _ _ eg)), .inl (SqL.of (k1 _ _ ec)), rows_same rw1 k1, fit.g, fit.r, fit.n, fun hs H2 ph sh mA kp => ⟨rfl, ?_⟩⟩
      have e0 : hs = gs := sorted_one ph sh fit.s
      subst e0
      have s2 : Same H1 H2 := fun a o e => kp _ _ (ne_of_none e nx) (k1 _ _ e)
      have eL2 := s2 _ _ eL
      have eg2 := s2 _ _ eg
      have ec2 := s2 _ _ ec
      refine ⟨_, rfl, L, _, 0, .ref g1, rfl, rfl, SqL.of eL2, rfl, .inl ⟨rfl, _, SqL.of eg2⟩, g1, _, rfl, rfl, eg2, fun H3 e3 b3 => ?_⟩
      have eL3 := b3 _ _ Lg eL2
      have ec3 := b3 _ _ gc.symm ec2
      refine ⟨_, rfl, L, _, 1, .ref c1, rfl, rfl, SqL.of eL3, rfl, .inl ⟨rfl, _, SqL.of ec3⟩, c1, _, rfl, rfl, ec3, fun H4 e4 b4 => ?_⟩
      have mA4 : MovesAt C H4 x hs rs := ((mA.put (k1 _ _ eg) eg2 b3).put (k1 _ _ ec) ec3 b4).at
      have sH4 : Same H H4 := fun a o e => by
        have n1 : a ≠ g1 := ne_of_none (sc _ _ e) ng
        have n2 : a ≠ c1 := ne_of_none (sc _ _ e) nc
        exact b4 _ _ n2 (b3 _ _ n1 (s2 _ _ (sH1 _ _ e)))
      have hm4 := hm.same sH4
      -- again != moves
      obtain ⟨dx4, fs4, ex4, _⟩ := mA4.ins
      obtain ⟨dm4, fm4, em4, _⟩ := hm4.ins
      refine ⟨_, rfl, _, rfl, x, dx4, fs4, m, dm4, fm4, rfl, rfl, ex4, em4, x, hs, rs, .ref m, rfl, mA4, fit, .inl ⟨m, hs, rs, rfl, hm4, fit, fun H5 s5 => ⟨_, rfl, _, rfl, ?_⟩⟩⟩
      simp only [and_self, decide_true, Bool.not_true]
      refine iteF ?_
      refine r_told rfl (mA4.same s5) fun L6 g6 c6 as6 H6 n6 ng6 nc6 gc6 Lg6 Lc6 eL6 eg6 ec6 rw6 s6 => ?_
      have sH6 := (sH4.trans s5).trans s6
      refine ⟨L6, _, rfl, dp_told eL6 eg6 ec6 rw6, shT, ?_⟩
      refine r_due rfl rfl fit.g fit.s pm (sH6 _ _ eG) fun L7 g7 H7 n7 eL7 eg7 s7 => ?_
      have sH7 := sH6.trans s7
      refine ⟨L7, _, rfl, dp_told eL7 eg7 (sH7 _ _ eR) (rows_same rows sH7), shT, rfl, _, rfl, ?_⟩
      simp only [decide_true, Bool.not_true]
      refine iteF ?_
      -- repr(moves) == ..
      have hm7 := hm.same sH7
      obtain ⟨dm7, fm7, em7, _⟩ := hm7.ins
      refine ⟨_, rfl, m, dm7, fm7, rfl, em7, m, hs, rs, rfl, hm7, fit, fun H8 s8 => ⟨_, rfl, ?_⟩⟩
      have sH8 := sH7.trans s8
      have sg := sh_gs fit.g
      have sr := sh_rows fit.g fit.r
      have wg : Shows (gsD hs) := sg.shows (by decide) (by decide)
      have wr : Shows (rowsD rs) := sr.shows (by have := fit.n; omega) (by decide)
      refine ⟨_, rfl, G, gs0, rfl, SqL.of (sH8 _ _ eG), by have := pm.length_eq; have := fit.g.l2; omega, fun ys p1 p2 g9 H9 n9 e9 s9 => ?_⟩
      have zy : ys = hs := sorted_one (p1.trans pm) p2 fit.s
      subst zy
      have sH9 := sH8.trans s9
      have lg := sg.len
      have lr := sr.len
      have fn := fit.n
      have l1 : ("Moves(" : Str).length = 6 := rfl
      have l2 : (", " : Str).length = 2 := rfl
      have l3 : (")" : Str).length = 1 := rfl
      have sz := sizeLine_eq
      refine ⟨g9, gsD ys, rfl, dp_gs (SqL.of e9), wg, _, _, rfl, rfl, by omega, _, _, rfl, rfl, ?_, _, rfl, R, _, rfl, dp_rows (rows_same rows sH9) (SqL.of (sH9 _ _ eR)), wr, _, _, rfl, rfl, ?_, _, _, rfl, rfl, ?_, rfl, ?_⟩
      · rw [strLen_append]; omega
      · rw [strLen_append, strLen_append]; omega
      · rw [strLen_append, strLen_append, strLen_append]; omega
      · have e : decide (V.str (reprM ys rs) = V.str ((((("Moves(" : Str) ++ (gsD ys).shown) ++ (", " : Str)) ++ (rowsD rs).shown) ++ (")" : Str))) = true := decide_eq_true rfl
        show Q (V.bl (decide (V.str (reprM ys rs) = V.str ((((("Moves(" : Str) ++ (gsD ys).shown) ++ (", " : Str)) ++ (rowsD rs).shown) ++ (")" : Str))))) H9
        rw [e]
        exact q H9 sH9
end
end KM

set_option Elab.async false
set_option linter.all false
set_option maxRecDepth 100000
set_option maxHeartbeats 4000000
namespace KM
open PySem PySem.Spec PyProof.Rows L2 GL
/-! ### == of rows -/
theorem eqv_row (r s : Row) : PyData.eqv (rowD r) (rowD s) = decide (r = s) := by
  obtain ⟨a, b, i⟩ := r
  obtain ⟨c, d, j⟩ := s
  show (PyData.eqv (oD a) (oD c) && (PyData.eqv (oD b) (oD d) && ((i == j) && true))) = _
  rw [eqv_o, eqv_o, Bool.eq_iff_iff]
  simp [and_assoc]
theorem eqv_rowsAll : ∀ rs ss : List Row, PyData.eqvAll (rs.map rowD) (ss.map rowD) = decide (rs = ss)
  | [], [] => rfl
  | [], _ :: _ => rfl
  | _ :: _, [] => rfl
  | r :: rs, s :: ss => by
    show (PyData.eqv (rowD r) (rowD s) && PyData.eqvAll (rs.map rowD) (ss.map rowD)) = _
    rw [eqv_row, eqv_rowsAll rs ss, Bool.eq_iff_iff]
    simp
theorem eqv_rows (rs ss : List Row) : PyData.eqv (rowsD rs) (rowsD ss) = decide (rs = ss) := eqv_rowsAll rs ss
theorem eqv_strsAll : ∀ gs hs : List Str, PyData.eqvAll (gs.map PyData.str) (hs.map PyData.str) = decide (gs = hs)
  | [], [] => rfl
  | [], _ :: _ => rfl
  | _ :: _, [] => rfl
  | r :: rs, s :: ss => by
    show ((r == s) && PyData.eqvAll (rs.map PyData.str) (ss.map PyData.str)) = _
    rw [eqv_strsAll rs ss, Bool.eq_iff_iff]
    simp
theorem eqv_gs (gs hs : List Str) : PyData.eqv (gsD gs) (gsD hs) = decide (gs = hs) := eqv_strsAll gs hs
theorem eqv_blsAll : ∀ l : List Bool, PyData.eqvAll (l.map PyData.bool) (l.map PyData.bool) = true
  | [] => rfl
  | b :: l => by
    show ((b == b) && PyData.eqvAll (l.map PyData.bool) (l.map PyData.bool)) = true
    rw [eqv_blsAll l]
    simp
theorem dp_bls {K : PySem.W.Frag} {H : Hp} : ∀ l : List Bool, DpAll K H (l.map V.bl) (l.map PyData.bool)
  | [] => .nil
  | b :: l => .cons (.bl b) (dp_bls l)
theorem layAll_map {α : Type} (f : α → PyData) : ∀ l : List α, (∀ a ∈ l, (f a).canLay0 = true) → PyData.canLayAll0 (l.map f) = true
  | [], _ => rfl
  | a :: l, h => by
    show ((f a).canLay0 && PyData.canLayAll0 (l.map f)) = true
    rw [h a List.mem_cons_self, layAll_map f l fun b hb => h b (List.mem_cons_of_mem _ hb)]
    rfl
theorem shaped_of {d : PyData} (l : d.canLay0 = true) (h : d.depth ≤ 64) : SeqAt.shaped d = true := by
  show (d.canLay0 && decide (d.depth ≤ 64)) = true
  rw [l, decide_eq_true h]
  rfl
theorem shaped_bls (l : List Bool) : SeqAt.shaped (.list (l.map PyData.bool)) = true :=
  shaped_of (layAll_map PyData.bool l fun b _ => by cases b <;> rfl) (by
    show PyData.depthAll (l.map PyData.bool) + 1 ≤ 64
    have := depthAll_map PyData.bool 0 l fun b _ => Nat.le_refl _
    omega)
theorem lay_row {gs : List Str} (G : GoodGs gs) {r : Row} (h : GoodRow gs r) : (rowD r).canLay0 = true := by
  show ((oD r.1).canLay0 && ((oD r.2.1).canLay0 && ((PyData.int r.2.2).canLay0 && true))) = true
  rw [lay_o G _ h.one, lay_o G _ h.two]
  rfl
theorem shaped_rows {gs : List Str} (G : GoodGs gs) {rs : List Row} (h : GoodRows gs rs) : SeqAt.shaped (rowsD rs) = true :=
  shaped_of (layAll_map rowD rs fun r hr => lay_row G (h r hr)) (by have := (sh_rows G h).low; omega)
theorem shaped_gs {gs : List Str} (G : GoodGs gs) : SeqAt.shaped (gsD gs) = true :=
  shaped_of (layAll_map PyData.str gs fun x hx => lay_name x (G.sub x hx)) (by have := (sh_gs G).low; omega)
/-! ### rows by parts -/
theorem rows_app {H : Hp} : ∀ {as bs : List Addr} {rs ss : List Row}, RowsIn H as rs → RowsIn H bs ss → RowsIn H (as ++ bs) (rs ++ ss)
  | _, _, _, _, .nil, h => h
  | _, _, _, _, .cons a t, h => .cons a (rows_app t h)
theorem rows_take {H : Hp} : ∀ {as : List Addr} {rs : List Row} (n : Nat), RowsIn H as rs → RowsIn H (as.take n) (rs.take n)
  | _, _, 0, _ => by simp only [List.take_zero]; exact .nil
  | _, _, _ + 1, .nil => .nil
  | _, _, n + 1, .cons a t => .cons a (rows_take n t)
theorem rows_drop {H : Hp} : ∀ {as : List Addr} {rs : List Row} (n : Nat), RowsIn H as rs → RowsIn H (as.drop n) (rs.drop n)
  | _, _, 0, h => h
  | _, _, _ + 1, .nil => .nil
  | _, _, n + 1, .cons _ t => rows_drop n t
theorem rows_rev {H : Hp} : ∀ {as : List Addr} {rs : List Row}, RowsIn H as rs → RowsIn H as.reverse rs.reverse
  | _, _, .nil => .nil
  | _, _, .cons a t => by
    rw [List.reverse_cons, List.reverse_cons]
    exact rows_app (rows_rev t) (.cons a .nil)
theorem rows_at {H : Hp} : ∀ {as : List Addr} {rs : List Row} {i : Nat} {x : V}, RowsIn H as rs → (as.map V.ref)[i]? = some x → ∃ t r, x = .ref t ∧ rs[i]? = some r ∧ RowAt H t r
  | _, _, i, x, .nil, e => by simp at e
  | _, _, 0, x, .cons (a := a) (b := b) h _, e => by
    have e' : V.ref a = x := by simpa using e
    exact ⟨a, b, e'.symm, rfl, h⟩
  | _, _, i + 1, x, .cons _ t, e => by
    obtain ⟨u, r, a, b, c⟩ := rows_at (i := i) (x := x) t (by simpa using e)
    exact ⟨u, r, a, by simpa using b, c⟩
end KM

set_option Elab.async false
set_option linter.all false
set_option maxRecDepth 100000
set_option maxHeartbeats 4000000
namespace KM
open PySem PySem.Spec PyProof.Rows L2 GL
section
variable {K : PySem.W.Frag} {C : Addr} {Hc : Hp} {m x : Addr} {gs gs2 : List Str} {rs rs2 : List Row} {Q : VK}
theorem q_eq (hm : MovesAt C Hc m gs rs) (fm : Fit gs rs) (hx : MovesAt C Hc x gs2 rs2) (fx : Fit gs2 rs2) (h : ∀ H', Same Hc H' → Q (.bl (decide (gs = gs2 ∧ rs = rs2))) H') :
    rEqO K C (spEq K C) E0 (.ref m) (.ref x) Hc Q := by
  obtain ⟨dx, fs, em, _⟩ := hm.ins
  obtain ⟨dy, fy, ex, _⟩ := hx.ins
  exact ⟨m, dx, fs, rfl, em, .inl ⟨x, dy, fy, rfl, ex⟩, m, gs, rs, .ref x, rfl, hm, fm, .inl ⟨x, gs2, rs2, rfl, hx, fx, fun H' s => ⟨_, rfl, h H' s⟩⟩⟩
theorem q_ne (hm : MovesAt C Hc m gs rs) (fm : Fit gs rs) (hx : MovesAt C Hc x gs2 rs2) (fx : Fit gs2 rs2) (h : ∀ H', Same Hc H' → Q (.bl (!decide (gs = gs2 ∧ rs = rs2))) H') :
    rNeO C (spEq K C) E0 (.ref m) (.ref x) Hc Q := by
  obtain ⟨dx, fs, em, _⟩ := hm.ins
  obtain ⟨dy, fy, ex, _⟩ := hx.ins
  exact ⟨m, dx, fs, x, dy, fy, rfl, rfl, em, ex, m, gs, rs, .ref x, rfl, hm, fm, .inl ⟨x, gs2, rs2, rfl, hx, fx, fun H' s => ⟨_, rfl, h H' s⟩⟩⟩
theorem q_eq0 {y : V} (hm : MovesAt C Hc m gs rs) (fm : Fit gs rs) (hy : NoMoves K Hc y) (h : ∀ H', Same Hc H' → Q (.bl false) H') : rEqO K C (spEq K C) E0 (.ref m) y Hc Q := by
  obtain ⟨dx, fs, em, _⟩ := hm.ins
  refine ⟨m, dx, fs, rfl, em, ?_, m, gs, rs, y, rfl, hm, fm, .inr ⟨hy, fun H' s => ⟨_, rfl, h H' s⟩⟩⟩
  rcases hy with ⟨a, xs, rfl, e | e⟩ | e | e | e
  · exact .inr (.inl ⟨a, xs, rfl, .inl (SqL.of e)⟩)
  · exact .inr (.inl ⟨a, xs, rfl, .inr (SqT.of e)⟩)
  · exact .inr (.inr (.inl e))
  · exact .inr (.inr (.inr (.inl e)))
  · exact .inr (.inr (.inr (.inr e)))
/-- what stands behind Moves(G, D) -/
theorem q_new {W : Addr → Hp → Prop} {G D : Addr} {as : List Addr} (g : SqL K Hc G (gs.map V.str) ∨ SqT K Hc G (gs.map V.str)) (d : SqL K Hc D (as.map V.ref) ∨ SqT K Hc D (as.map V.ref)) (rw' : RowsIn Hc as rs)
    (G0 : GoodGs gs) (R0 : GoodRows gs rs) (len : rs.length ≤ 24)
    (h : ∀ x hs H', Hc x = none → hs.Perm gs → Fit hs rs → MovesNew C Hc H' x hs rs → Same Hc H' → W x H') :
    ∀ x dx, Hc x = none → Hc dx = none → dx ≠ x → spInit K C [.ref x, .ref G, .ref D] (upd (upd Hc dx (.own x)) x (.ins C dx [])) (fun v H3 => v = .non ∧ W x H3) E0 := by
  intro x dx nx ndx nex
  have k : Same Hc (upd (upd Hc dx (.own x)) x (.ins C dx [])) := fun a o e => by rw [upd_ne (ne_of_none e nx), upd_ne (ne_of_none e ndx)]; exact e
  refine ⟨x, dx, G, D, gs, as, rs, rfl, upd_same, g.imp k.seq (same_tup k), d.imp k.seq (same_tup k), rows_same rw' k, G0, R0, len, fun hs H' p s mn kp => ⟨rfl, ?_⟩⟩
  obtain ⟨dz, a, b, bs, e1, e2, e3, e4, n1, n2⟩ := mn
  refine h x hs H' nx p ⟨G0.perm p, s, fun r hr => (R0 r hr).of_sub fun y hy => (p.mem_iff).mpr hy, len⟩ ⟨dz, a, b, bs, e1, e2, e3, e4, k.free n1, k.free n2⟩ fun a o e => kp _ _ (ne_of_none e nx) (k _ _ e)
end
theorem perm_strs {ys : List V} {l : List Str} (h : ys.Perm (l.map V.str)) : ∃ hs : List Str, hs.Perm l ∧ ys = hs.map V.str := by
  let un : V → Str := fun v => match v with
    | .str x => x
    | _ => ""
  refine ⟨ys.map un, ?_, ?_⟩
  · have z := h.map un
    rw [List.map_map] at z
    have e : (un ∘ V.str) = id := by funext x; rfl
    rw [e, List.map_id] at z
    exact z
  · rw [List.map_map]
    have : ∀ v ∈ ys, (V.str ∘ un) v = v := fun v hv => by
      obtain ⟨x, _, rfl⟩ := List.mem_map.mp (h.mem_iff.mp hv)
      rfl
    exact (List.map_id ys).symm.trans (List.map_congr_left fun v hv => (this v hv).symm)
theorem take_more {α : Type} : ∀ {l : List α} {i : Nat} {x : α}, l[i]? = some x → l.take (i + 1) = l.take i ++ [x]
  | [], i, x, h => by simp at h
  | a :: l, 0, x, h => by
    have e : a = x := by simpa using h
    rw [e]; rfl
  | a :: l, i + 1, x, h => by
    have ih := take_more (l := l) (i := i) (x := x) (by simpa using h)
    simp only [List.take_succ_cons, List.cons_append]
    rw [ih]
theorem atI0 {α : List V} {x : V} : atI (x :: α) 0 = some x := by
  unfold atI ixN
  rw [if_pos (Int.le_refl _), if_pos (by rw [List.length_cons]; omega)]
  rfl
theorem fit_one {gs hs : List Str} {rs ss : List Row} (a : Fit gs rs) (b : Fit hs ss) (p : hs.Perm gs) : hs = gs := sorted_one p b.s a.s
end KM

set_option Elab.async false
set_option linter.all false
set_option maxRecDepth 100000
set_option maxHeartbeats 4000000
namespace KM
open PySem PySem.Spec PyProof.Rows L2 GL
theorem yes_go {σ : L2.St} {H : Hp} {A B : Hp → Prop} (h : A H) : tYes σ H fun b H3 => if b = true then A H3 else B H3 := by
  show (if true = true then A H else B H)
  exact iteT h
theorem dec_sym {α β : Type} [DecidableEq α] [DecidableEq β] (a b : α) (c d : β) : decide (a = b ∧ c = d) = decide (b = a ∧ d = c) :=
  decide_eq_decide.mpr ⟨fun h => ⟨h.1.symm, h.2.symm⟩, fun h => ⟨h.1.symm, h.2.symm⟩⟩
theorem cut_take {xs : List V} {i : Nat} (h : i ≤ xs.length) : cutV xs none (some (i : Int)) = xs.take i := by
  unfold cutV
  have e0 : HT.sIx xs.length 0 none = 0 := rfl
  have e1 : HT.sIx xs.length xs.length (some (i : Int)) = i := by rw [HT.sIx_nat]; omega
  rw [e0, e1]
  simp
theorem cut_drop {xs : List V} {i : Nat} (h : i ≤ xs.length) : cutV xs (some (i : Int)) none = xs.drop i := by
  unfold cutV
  have e0 : HT.sIx xs.length xs.length none = xs.length := rfl
  have e1 : HT.sIx xs.length 0 (some (i : Int)) = i := by rw [HT.sIx_nat]; omega
  rw [e0, e1]
  rw [List.take_of_length_le]
  rw [List.length_drop]
  omega
theorem r_patch {K : PySem.W.Frag} {tt : TE} {σ : L2.St} {ri ai : Nat} {Hc : Hp} {R : Addr} {i : Nat} {as : List Addr} {rs : List Row} {r : Row} {Q : VK} (hR : σ[ri]? = some (some (.ref R))) (hA : σ[ai]? = some (some (.int (i : Nat))))
    (eR : Hc R = some (.lst (as.map V.ref))) (rows : RowsIn Hc as rs) (hi : i < rs.length) (len : rs.length ≤ 1000)
    (ht : ∀ H1 Q', Same Hc H1 → (∀ t H2, Same H1 H2 → RowAt H2 t r → Q' (.ref t) H2) → tt σ H1 Q')
    (h : ∀ L bs H', Hc L = none → H' L = some (.lst (bs.map V.ref)) → RowsIn H' bs (rs.take i ++ [r] ++ rs.drop (i + 1)) → Same Hc H' → Q (.ref L) H') :
    tOp rCatL (tOp rCatL (tSl (rSlcL K) (tVar ri) tNoPart (tPart (tVar ai))) (tLstL (tCons tt tNil)))
      (tSl (rSlcL K) (tVar ri) (tPart (tOp (rI0 fun i j => V.int (i + j)) (tVar ai) (tC (.int 1)))) tNoPart) σ Hc Q := by
  have la : as.length = rs.length := Paired.length rows
  have lm : (as.map V.ref).length = rs.length := by rw [List.length_map, la]
  have sz := sizeLine_eq
  refine ⟨_, hR, _, hA, (i : Int), rfl, R, _, rfl, SqL.of eR, fun A1 H1 n1 e1 s1 => ?_⟩
  rw [cut_take (by omega)] at e1
  refine ht H1 _ s1 fun t H2 s2 et => ⟨by show 1 ≤ sizeLine; decide, fun L1 H3 n3 e3 s3 => ?_⟩
  refine ⟨A1, L1, _, _, rfl, rfl, s3 _ _ (s2 _ _ e1), e3, by rw [List.length_take, lm]; show _ + 1 ≤ sizeLine; omega, fun B1 H4 n4 e4 s4 => ?_⟩
  have S4 : Same Hc H4 := ((s1.trans s2).trans s3).trans s4
  refine ⟨_, hR, _, hA, _, _, rfl, rfl, (i : Int) + 1, rfl, R, _, rfl, SqL.of (S4 _ _ eR), fun A2 H5 n5 e5 s5 => ?_⟩
  have ei : (i : Int) + 1 = ((i + 1 : Nat) : Int) := by omega
  rw [ei, cut_drop (by omega)] at e5
  refine ⟨B1, A2, _, _, rfl, rfl, s5 _ _ e4, e5, by simp only [List.length_append, List.length_take, List.length_drop, lm, List.length_cons, List.length_nil]; omega, fun L H6 n6 e6 s6 => ?_⟩
  have S5 := S4.trans s5
  have S6 := S5.trans s6
  have r6 := rows_same rows S6
  refine h L (as.take i ++ [t] ++ as.drop (i + 1)) H6 (S5.free n6) ?_ ?_ S6
  · rw [e6]
    simp [List.map_take, List.map_drop]
  · exact rows_app (rows_app (rows_take i r6) (.cons (s6 _ _ (s5 _ _ (s4 _ _ (s3 _ _ et)))) .nil)) (rows_drop (i + 1) r6)
theorem r_drop {K : PySem.W.Frag} {σ : L2.St} {ri ai : Nat} {Hc : Hp} {R : Addr} {i : Nat} {as : List Addr} {rs : List Row} {Q : VK} (hR : σ[ri]? = some (some (.ref R))) (hA : σ[ai]? = some (some (.int (i : Nat))))
    (eR : Hc R = some (.lst (as.map V.ref))) (rows : RowsIn Hc as rs) (hi : i < rs.length) (len : rs.length ≤ 1000)
    (h : ∀ L bs H', Hc L = none → H' L = some (.lst (bs.map V.ref)) → RowsIn H' bs (rs.take i ++ rs.drop (i + 1)) → Same Hc H' → Q (.ref L) H') :
    tOp rCatL (tSl (rSlcL K) (tVar ri) tNoPart (tPart (tVar ai)))
      (tSl (rSlcL K) (tVar ri) (tPart (tOp (rI0 fun i j => V.int (i + j)) (tVar ai) (tC (.int 1)))) tNoPart) σ Hc Q := by
  have la : as.length = rs.length := Paired.length rows
  have lm : (as.map V.ref).length = rs.length := by rw [List.length_map, la]
  have sz := sizeLine_eq
  refine ⟨_, hR, _, hA, (i : Int), rfl, R, _, rfl, SqL.of eR, fun A1 H1 n1 e1 s1 => ?_⟩
  rw [cut_take (by omega)] at e1
  refine ⟨_, hR, _, hA, _, _, rfl, rfl, (i : Int) + 1, rfl, R, _, rfl, SqL.of (s1 _ _ eR), fun A2 H5 n5 e5 s5 => ?_⟩
  have ei : (i : Int) + 1 = ((i + 1 : Nat) : Int) := by omega
  rw [ei, cut_drop (by omega)] at e5
  refine ⟨A1, A2, _, _, rfl, rfl, s5 _ _ e1, e5, by simp only [List.length_append, List.length_take, List.length_drop, lm]; omega, fun L H6 n6 e6 s6 => ?_⟩
  have S6 := (s1.trans s5).trans s6
  have r6 := rows_same rows S6
  refine h L (as.take i ++ as.drop (i + 1)) H6 ((s1.trans s5).free n6) ?_ ?_ S6
  · rw [e6]
    simp [List.map_take, List.map_drop]
  · exact rows_app (rows_take i r6) (rows_drop (i + 1) r6)
end KM

set_option Elab.async false
set_option linter.all false
set_option maxRecDepth 100000
set_option maxHeartbeats 4000000
namespace KM
open PySem PySem.Spec PyProof.Rows L2 GL
abbrev sEq : Stmt := top 34
/-- equal_right(pot, moves, goods, rows): True -/
def spEqR (C : Addr) : Sp := fun vs H Q _ => ∃ (p m G R : Addr) (gs gs0 : List Str) (rs : List Row) (as : List Addr), vs = [.ref p, .ref m, .ref G, .ref R] ∧ PotAt H p ∧ MovesAt C H m gs rs ∧ Fit gs rs ∧ gs0.Perm gs ∧
  GoodGs (gs0 ++ [zz]) ∧ H G = some (.lst (gs0.map V.str)) ∧ H R = some (.lst (as.map V.ref)) ∧ RowsIn H as rs ∧ rs.length ≤ 20 ∧ (∀ r ∈ rs, r.2.2.natAbs ≤ 50) ∧ ∀ H', PotAt H' p → But p H H' → Q (.bl true) H'
abbrev nEq : List Str := ["_law_pot_here", "_law_moves", "_law_goods", "_law_rows", "_law_same", "_law_others", "_law_due", "_law_other", "_law_at", "_law_one", "_law_most", "_law_bent", "_law_turned", "_law_so", "_law_thing"]
theorem add_ref {C : Addr} (vs : List V) (H : Hp) (Q : VK) (h : spAdd C vs H Q E0) : spAdd C vs H (fun v H1 => (∃ a, v = .ref a) ∧ Q v H1) E0 := by
  obtain ⟨m, t, gs, rs, r, e, a, b, c, d, l, q⟩ := h
  exact ⟨m, t, gs, rs, r, e, a, b, c, d, l, fun x H' n s' z => ⟨⟨x, rfl⟩, q x H' n s' z⟩⟩
section
variable {P : Program} {w : World} {K : PySem.W.Frag} {mg : Str → Option Value} {base : Heap} {C : Addr}
theorem scEq : FnScope nEq ["_law_pot_here", "_law_moves", "_law_goods", "_law_rows"] (defScope sEq) :=
  ⟨rfl, rfl, rfl, by decide +kernel, rfl, by decide +kernel, by decide +kernel⟩
theorem ok_eqr {f : Addr} {fd : FuncData} (F : Fun K "_law_equal_right" "_law_equal_right" sEq f fd) (T : Bi mg) (M : Mv P w K mg base C)
    (I : Has P w K mg base "_law_mixed" 2 ["_law_pot_here", "_law_some"] (spMixed K)) :
    FnG P w K mg base CX0 9 f fd ["_law_pot_here", "_law_moves", "_law_goods", "_law_rows"] (spEqR C) := by
  refine okG F scEq (fun vs H Q E h => ?_) (fun cdv A out s H vs Q E g hr h => ?_)
  · obtain ⟨p, m, G, R, gs, gs0, rs, as, rfl, _⟩ := h
    rfl
  · obtain ⟨p, m, G, R, gs, gs0, rs, as, rfl, hp, hm, fit, pm, gzz, eG, eR, rows, len, low, q⟩ := h
    have hr1 : Room 1 _ := hr.mono (by decide)
    have hr2 : Room 2 _ := hr.mono (by decide)
    have hr7 : Room 7 _ := hr.mono (by decide)
    have hu := hr.units
    obtain ⟨TD, sqT, mk1⟩ := M.mk1
    refine ⟨_, (pss_cons (ps_set (i := 4) scEq.nd rfl (.inl rfl) (pe_hasC0 M.mkK g hr7 (by rfl) M.gM (pk_cons (pe_callTy call_tupL (by rfl) T.tuple (by decide +kernel) (pa_cons (pv 3) pa_nil)) (pk_cons (pe_callTy call_tupL (by rfl) T.tuple (by decide +kernel) (pa_cons (pe_has I g hr2 (by rfl) (pa_cons (pv 0) (pa_cons (pv 2) pa_nil))) pa_nil)) pk_nil))))
      (pss_cons (ps_if (PW.pt (pw_or (pt_not (pt_cmpR (show OpR _ (compareOp .Eq) (rEqO K C (spEq K C) E0) from or_eq M.eq M.below g hr1) (pv 1) (pv 4) (nomark _))) (pw_or1 (pt_cmpR (or_ne M.eq M.eqc g hr2) (pv 1) (pv 4) (nomark _))))) (pss_one (ps_ret pe_bl)) pss_nil)
      (pss_cons (ps_set (i := 5) scEq.nd rfl (.inl rfl) (pe_lstL (pa_cons (pe_hasC M.mk2 g hr7 (by rfl) M.gM (pa_cons (pe_op op_catL (pv 2) (pe_lstL (pa_cons pe_str pa_nil))) (pa_cons (pv 3) pa_nil)) pk_nil) (pa_cons (pe_op (or_add M.add M.addc g hr add_ref) (pv 1) (pe_tupL (pa_cons (pe_ix ix_list (pv 2) pe_int (fun _ _ => rfl)) (pa_cons pe_non (pa_cons pe_int pa_nil))))) (pa_cons (pe_hasC M.mk2 g hr7 (by rfl) M.gM (pa_cons (pv 2) (pa_cons (pe_revL (pv 3)) pa_nil)) pk_nil) (pa_cons (pe_hasC mk1 g hr7 (by rfl) M.gM (pa_cons (pv 2) pa_nil) pk_nil) pa_nil))))))
      (pss_cons (ps_set (i := 6) scEq.nd rfl (.inl rfl) (pe_lstL (pa_cons pe_bl (pa_cons pe_bl (pa_cons (pe_cmpR (op_eqD hu) (pv 3) (pe_revL (pv 3)) (nomark _)) (pa_cons (pe_cmpR (op_eqD hu) (pv 3) (pe_lstL pa_nil) (nomark _)) pa_nil))))))
      (pss_cons (ps_if (PW.pt (pw_or (pt_cmpR (op_neD hu) (pe_lc (own := [("_law_other", 7)]) (g := gName 7) (by rfl) scEq.nd (pi_list (pv 5)) (blkOk_by (own := [("_law_other", 7)]) (N := nEq) (sc := defScope sEq) (by decide +kernel)) (fun _ _ _ _ _ => pg_name (i := 7) scEq.nd rfl (.inl rfl)) (fun _ _ _ _ _ => pts_nil) (fun _ _ _ _ _ => by exact (pe_cmpR (show OpR _ (compareOp .Eq) (rEqO K C (spEq K C) E0) from or_eq M.eq M.below g hr1) (pv 1) (pv 7) (nomark _)))) (pv 6) (nomark _)) (pw_or1 (pt_cmpR (op_neD hu) (pe_lc (own := [("_law_other", 7)]) (g := gName 7) (by rfl) scEq.nd (pi_list (pv 5)) (blkOk_by (own := [("_law_other", 7)]) (N := nEq) (sc := defScope sEq) (by decide +kernel)) (fun _ _ _ _ _ => pg_name (i := 7) scEq.nd rfl (.inl rfl)) (fun _ _ _ _ _ => pts_nil) (fun _ _ _ _ _ => by exact (pe_cmpR (or_ne M.eq M.eqc g hr2) (pv 7) (pv 1) (nomark _)))) (pe_lc (own := [("_law_so", 13)]) (g := gName 13) (by rfl) scEq.nd (pi_list (pv 6)) (blkOk_by (own := [("_law_so", 13)]) (N := nEq) (sc := defScope sEq) (by decide +kernel)) (fun _ _ _ _ _ => pg_name (i := 13) scEq.nd rfl (.inl rfl)) (fun _ _ _ _ _ => pts_nil) (fun _ _ _ _ _ => by exact (pe_not (pv 13)))) (nomark _))))) (pss_one (ps_ret pe_bl)) pss_nil)
      (pss_cons (ps_for PassesOwn.never rfl (pi_enum (by rfl) T.enumerate (pa_cons (pv 3) pa_nil)) (pg_tup rfl (pgs_cons (pg_name (i := 8) scEq.nd rfl (.inl rfl)) (pgs_cons (pg_tup rfl (pgs_cons (pg_name (i := 9) scEq.nd rfl (.inl rfl)) (pgs_cons (pg_name (i := 7) scEq.nd rfl (.inl rfl)) (pgs_cons (pg_name (i := 10) scEq.nd rfl (.inl rfl)) pgs_nil)))) pgs_nil)))
      (pss_cons (ps_set (i := 11) scEq.nd rfl (.inl rfl) (pe_op op_catL (pe_op op_catL (pe_slice slcL (pv 3) po_none (po_some (pv 8))) (pe_lstL (pa_cons (pe_tupL (pa_cons (pv 9) (pa_cons (pv 7) (pa_cons (pe_op op_add (pv 10) pe_int) pa_nil)))) pa_nil))) (pe_slice slcL (pv 3) (po_some (pe_op op_add (pv 8) pe_int)) po_none)))
      (pss_cons (ps_set (i := 12) scEq.nd rfl (.inl rfl) (pe_op op_catL (pe_op op_catL (pe_slice slcL (pv 3) po_none (po_some (pv 8))) (pe_lstL (pa_cons (pe_tupL (pa_cons (pv 7) (pa_cons (pv 9) (pa_cons (pv 10) pa_nil)))) pa_nil))) (pe_slice slcL (pv 3) (po_some (pe_op op_add (pv 8) pe_int)) po_none)))
      (pss_one (ps_if (PW.pt (pw_or (pt_cmpR (show OpR _ (compareOp .Eq) (rEqO K C (spEq K C) E0) from or_eq M.eq M.below g hr1) (pv 1) (pe_hasC M.mk2 g hr7 (by rfl) M.gM (pa_cons (pv 2) (pa_cons (pv 11) pa_nil)) pk_nil) (nomark _)) (pw_or1 (pt_cmpR (show OpR _ (compareOp .Eq) (rEqO K C (spEq K C) E0) from or_eq M.eq M.below g hr1) (pv 1) (pe_hasC M.mk2 g hr7 (by rfl) M.gM (pa_cons (pv 2) (pa_cons (pv 12) pa_nil)) pk_nil) (nomark _))))) (pss_one (ps_ret pe_bl)) pss_nil)))))
      (pss_one (ps_ret (pe_not (pe_callB (cr_any (by rfl)) (by rfl) T.any (by decide +kernel) (pa_cons (pe_lc (own := [("_law_thing", 14)]) (g := gName 14) (by rfl) scEq.nd (pi_list (pe_lstL (pa_cons pe_non (pa_cons pe_int (pa_cons (pv 2) (pa_cons (pv 3) (pa_cons (pe_callB (cr_repr M.repr g hr2) (by rfl) T.repr (by decide +kernel) (pa_cons (pv 1) pa_nil)) (pa_cons (pe_tupL (pa_cons (pv 2) (pa_cons (pv 3) pa_nil))) pa_nil)))))))) (blkOk_by (own := [("_law_thing", 14)]) (N := nEq) (sc := defScope sEq) (by decide +kernel)) (fun _ _ _ _ _ => pg_name (i := 14) scEq.nd rfl (.inl rfl)) (fun _ _ _ _ _ => pts_nil) (fun _ _ _ _ _ => by exact (pe_cmpR (show OpR _ (compareOp .Eq) (rEqO K C (spEq K C) E0) from or_eq M.eq M.below g hr1) (pv 1) (pv 14) (nomark _)))) pa_nil))))))))))), ?_⟩
    obtain ⟨x0, y0, hpp, _⟩ := id hp
    obtain ⟨g0, gr, eg0⟩ : ∃ a r, gs0 = a :: r := by
      have := (fit.g.perm pm).l1
      cases gs0 with
      | nil => simp at this
      | cons a r => exact ⟨a, r, rfl⟩
    have G0 : GoodGs gs0 := fit.g.perm pm
    have hGp : G ≠ p := ne_of eG hpp (by
      intro z
      cases gs0 with
      | nil => cases z
      | cons a r => cases z)
    have hRp : R ≠ p := ne_of eR hpp (by
      intro z
      cases as with
      | nil => cases z
      | cons a r => cases z)
    -- same = Moves(conditions=tuple(rows), goods=tuple(mixed(pot, goods)))
    refine ⟨_, rfl, R, _, rfl, SqL.of eR, fun tR H1 nR eR1 s1 => ?_⟩
    refine ⟨_, rfl, _, rfl, rfl, rfl, p, G, _, rfl, pot_same hp s1, SqL.of (s1 _ _ eG), hGp, by rw [List.length_map]; have := G0.l2; omega, fun ys D H2 pmy nD eD hp2 b2 => ?_⟩
    obtain ⟨hs, ph, rfl⟩ := perm_strs pmy
    have hpp1 := s1 _ _ hpp
    refine ⟨D, _, rfl, SqL.of eD, fun tG H3 nG eG3 s3 => ⟨rfl, rfl, ?_⟩⟩
    have b3 : But p H H3 := ((But.of s1).trans b2).trans (But.of s3)
    have eR3 := s3 _ _ (b2 _ _ (ne_of eR1 hpp1 (by intro z; cases z)) eR1)
    have hp3 := pot_same hp2 s3
    refine q_new (.inr (SqT.of eG3)) (.inr (SqT.of eR3)) (rows_but rows b3 hpp) (fit.g.perm (ph.trans pm)) (fun r hr => (fit.r r hr).of_sub fun y hy => ((ph.trans pm).mem_iff).mpr hy) fit.n fun x hs' H4 nx ph4 fx mn4 s4 => ?_
    have e0 : hs' = gs := fit_one fit fx (ph4.trans (ph.trans pm))
    subst e0
    have b4 : But p H H4 := b3.trans (But.of s4)
    have hp4 := pot_same hp3 s4
    -- moves == same, moves != same
    refine ⟨_, rfl, _, rfl, q_eq (hm.but hp b4) fit mn4.at fit fun H5 s5 => ⟨_, rfl, ?_⟩⟩
    have b5 : But p H H5 := b4.trans (But.of s5)
    have hp5 := pot_same hp4 s5
    simp only [and_self, decide_true, Bool.not_true]
    refine iteF ?_
    refine ⟨_, rfl, _, rfl, q_ne (hm.but hp b5) fit (mn4.at.same s5) fit fun H6 s6 => ⟨_, rfl, ?_⟩⟩
    have b6 : But p H H6 := b5.trans (But.of s6)
    have hp6 := pot_same hp5 s6
    simp only [and_self, decide_true, Bool.not_true]
    refine iteF ?_
    -- from here on the pot stands still: all is seen from H4
    have hm4 := hm.but hp b4
    have eG4 := b4 _ _ hGp eG
    have eR4 := b4 _ _ hRp eR
    have rows4 := rows_but rows b4 hpp
    have r0 : GoodRow hs' (some g0, none, 0) := ⟨by simp, (fun y e => by cases e; exact (pm.mem_iff).mp (by rw [eg0]; exact List.mem_cons_self)), (fun y e => by cases e), by show (0 : Int).natAbs ≤ 100; decide⟩
    have rG : GoodRows gs0 rs := fun r hr => (fit.r r hr).of_sub fun y hy => (pm.mem_iff).mpr hy
    have S6 : Same H4 H6 := s5.trans s6
    -- others
    refine ⟨_, rfl, by show 1 ≤ sizeLine; decide, fun Z H7 nZ eZ s7 => ?_⟩
    have S7 := S6.trans s7
    refine ⟨G, Z, _, _, rfl, rfl, S7 _ _ eG4, eZ, by rw [List.length_map, sizeLine_eq]; have := G0.l2; show gs0.length + 1 ≤ _; omega, fun GZ H8 nGZ eGZ s8 => ?_⟩
    have S8 := S7.trans s8
    have eGZ' : H8 GZ = some (.lst ((gs0 ++ [zz]).map V.str)) := by rw [List.map_append]; exact eGZ
    have rZ : GoodRows (gs0 ++ [zz]) rs := fun r hr => (rG r hr).of_sub fun y hy => List.mem_append_left _ hy
    refine ⟨_, rfl, rfl, rfl, ?_⟩
    refine q_new (.inl (SqL.of eGZ')) (.inl (SqL.of (S8 _ _ eR4))) (rows_same rows4 S8) gzz rZ fit.n fun x1 hs1 H9 nx1 ph1 fx1 mn1 s9 => ?_
    have S9 := S8.trans s9
    -- moves + (goods[0], None, 0)
    refine ⟨_, rfl, _, rfl, G, _, 0, .str g0, rfl, rfl, SqL.of (S9 _ _ eG4), by rw [eg0]; exact atI0, by show 3 ≤ sizeLine; decide, fun t H10 nt et s10 => ?_⟩
    have S10 := S9.trans s10
    have hm10 := hm4.same S10
    obtain ⟨dm, fm, em, _⟩ := hm10.ins
    refine ⟨m, dm, fm, t, _, rfl, rfl, em, SqT.of et, m, t, hs', rs, (some g0, none, 0), rfl, hm10, fit, et, r0, by omega, fun x2 H11 nx2 s11 ma2 => ?_⟩
    have S11 := S10.trans s11
    have fx2 : Fit hs' (rs ++ [(some g0, none, 0)]) := ⟨fit.g, fit.s, fun r hr => (List.mem_append.mp hr).elim (fit.r r) fun h => by rw [List.mem_singleton.mp h]; exact r0, by simp; omega⟩
    -- Moves(goods, rows[::-1])
    refine ⟨_, rfl, _, rfl, R, _, rfl, SqL.of (S11 _ _ eR4), fun rv nrv => ⟨rfl, rfl, ?_⟩⟩
    have s12 := same_new (o := .lst (as.map V.ref).reverse) (Same.refl' H11) nrv
    have S12 := S11.trans s12
    refine q_new (rs := rs.reverse) (as := as.reverse) (.inl (SqL.of (S12 _ _ eG4))) (.inl (SqL.of (by rw [List.map_reverse]; exact upd_same))) (rows_rev (rows_same rows4 S12)) G0 (fun r hr => rG r (List.mem_reverse.mp hr)) (by rw [List.length_reverse]; exact fit.n) fun x3 hs3 H13 nx3 ph3 fx3 mn3 s13 => ?_
    have e3 : hs3 = hs' := fit_one fit fx3 (ph3.trans pm)
    subst e3
    have S13 := S12.trans s13
    -- Moves(goods)
    refine ⟨_, rfl, rfl, rfl, ?_⟩
    refine q_new (rs := []) (as := []) (.inl (SqL.of (S13 _ _ eG4))) (.inr (sqt_any sqT _)) .nil G0 (fun r hr => by cases hr) (by decide) fun x4 hs4 H14 nx4 ph4' fx4 mn4' s14 => ?_
    have e4 : hs4 = hs3 := fit_one fit fx4 (ph4'.trans pm)
    subst e4
    have S14 := S13.trans s14
    refine ⟨by show 4 ≤ sizeLine; decide, fun Lo H15 nLo eLo s15 => ?_⟩
    have S15 := S14.trans s15
    -- due
    refine ⟨_, rfl, _, rfl, R, _, rfl, SqL.of (S15 _ _ eR4), fun rv2 nrv2 => ?_⟩
    have s16 := same_new (o := .lst (as.map V.ref).reverse) (Same.refl' H15) nrv2
    have S16 := S15.trans s16
    refine ⟨rowsD rs, rowsD rs.reverse, dp_rows (rows_same rows4 S16) (SqL.of (S16 _ _ eR4)), dp_rows (rows_rev (rows_same rows4 S16)) (SqL.of (by rw [List.map_reverse]; exact upd_same)), shaped_rows fit.g fit.r, shaped_rows fit.g (fun r hr => fit.r r (List.mem_reverse.mp hr)), ?_⟩
    refine ⟨_, rfl, by show 0 ≤ sizeLine; decide, fun Nl H17 nNl eNl s17 => ?_⟩
    have S17 := S16.trans s17
    refine ⟨rowsD rs, rowsD [], dp_rows (rows_same rows4 S17) (SqL.of (S17 _ _ eR4)), dp_rows (as := []) .nil (SqL.of eNl), shaped_rows fit.g fit.r, shaped_rows fit.g (fun r hr => by cases hr), ?_⟩
    refine ⟨by show 4 ≤ sizeLine; decide, fun Du H18 nDu eDu s18 => ?_⟩
    have S18 := S17.trans s18
    rw [eqv_rows, eqv_rows] at eDu
    -- [moves == other for other in others] != due
    have m1 : MovesAt C H18 x1 hs1 rs := mn1.at.same (((((((((s10.trans s11).trans s12).trans s13).trans s14).trans s15).trans s16).trans s17).trans s18))
    have m2 : MovesAt C H18 x2 hs4 (rs ++ [(some g0, none, 0)]) := ma2.at.same (((((((s12).trans s13).trans s14).trans s15).trans s16).trans s17).trans s18)
    have m3 : MovesAt C H18 x3 hs4 rs.reverse := mn3.at.same ((((s14.trans s15).trans s16).trans s17).trans s18)
    have m4 : MovesAt C H18 x4 hs4 [] := mn4'.at.same (((s15.trans s16).trans s17).trans s18)
    have mm : MovesAt C H18 m hs4 rs := hm4.same S18
    have eLo18 := s18 _ _ (s17 _ _ (s16 _ _ eLo))
    clear nx1 nx2 nx3 nx4 mn1 ma2 mn3 mn4' hm10 em et nt nZ eZ nGZ eGZ eGZ' s7 s8 s9 s10 s11 s12 s13 s14 s15 s16 s17 s18 S7 S8 S9 S10 S11 S12 S13 S14 S15 S16 S17 nrv nrv2 nLo eLo nDu nNl eNl
    have n1 : ¬ hs4 = hs1 := fun e => by
      have l1 := ph1.length_eq
      have l2 := pm.length_eq
      rw [← e, List.length_append, l2] at l1
      simp at l1
    have n2 : ¬ rs = rs ++ [(some g0, none, 0)] := fun e => by
      have l1 := congrArg List.length e
      simp at l1
    let res : List Bool := [false, false, decide (rs = rs.reverse), decide (rs = [])]
    have eDu' : H18 Du = some (.lst (res.map V.bl)) := eDu
    have each : ∀ (i : Nat) (xv : V), ([V.ref x1, .ref x2, .ref x3, .ref x4] : List V)[i]? = some xv → ∃ a gs2 rs2, xv = V.ref a ∧ MovesAt C H18 a gs2 rs2 ∧ Fit gs2 rs2 ∧ res[i]? = some (decide (hs4 = gs2 ∧ rs = rs2)) ∧ decide (hs4 = gs2 ∧ rs = rs2) = decide (gs2 = hs4 ∧ rs2 = rs) := by
      intro i xv hx
      match i, hx with
      | 0, hx => cases hx; exact ⟨x1, hs1, rs, rfl, m1, fx1, by simp [res, n1], dec_sym _ _ _ _⟩
      | 1, hx => cases hx; exact ⟨x2, hs4, _, rfl, m2, fx2, by simp [res], dec_sym _ _ _ _⟩
      | 2, hx => cases hx; exact ⟨x3, hs4, _, rfl, m3, fx3, by simp [res], dec_sym _ _ _ _⟩
      | 3, hx => cases hx; exact ⟨x4, hs4, _, rfl, m4, fx4, by simp [res], dec_sym _ _ _ _⟩
      | i + 4, hx => simp at hx
    refine ⟨_, rfl, Lo, rfl, ⟨_, SqL.of eLo18⟩, fun D1 nD1 => lc_list (K := K) (a := Lo) (xs := [V.ref x1, V.ref x2, V.ref x3, V.ref x4])
      (fun i H' => Same H18 H' ∧ H' D1 = some (.lst ((res.take i).map V.bl))) ⟨same_new (Same.refl' _) nD1, upd_same⟩ (fun i H' _ ⟨sc, _⟩ => sc.seq (SqL.of eLo18)) ?_ ?_⟩
    · rintro i xv H' hx ⟨sc, eD1⟩
      obtain ⟨a, gs2, rs2, rfl, ma, fa, er, _⟩ := each i xv hx
      refine ⟨rfl, yes_go ?_⟩
      refine ⟨_, rfl, _, rfl, q_eq (mm.same sc) fit (ma.same sc) fa fun H'' s'' => ?_⟩
      refine ⟨_, s'' _ _ eD1, by rw [List.length_map, List.length_take]; exact small1000 (by have : res.length = 4 := rfl; omega), ?_, ?_⟩
      · intro b o e
        rw [upd_ne (ne_of_none e nD1)]
        exact s'' _ _ (sc _ _ e)
      · rw [upd_same, take_more er, List.map_append]
        rfl
    · rintro H19 ⟨S19, eD1⟩
      have eD1' : H19 D1 = some (.lst (res.map V.bl)) := eD1
      refine ⟨_, rfl, .list (res.map PyData.bool), .list (res.map PyData.bool), .lst (SqL.of eD1') (dp_bls res), .lst (SqL.of (S19 _ _ eDu')) (dp_bls res), shaped_bls _, shaped_bls _, _, rfl, ?_⟩
      have z1 : PyData.eqv (.list (res.map PyData.bool)) (.list (res.map PyData.bool)) = true := eqv_blsAll res
      rw [z1]
      refine iteF ?_
      -- [other != moves for other in others] != [not so for so in due]
      refine ⟨_, rfl, Lo, rfl, ⟨_, SqL.of (S19 _ _ eLo18)⟩, fun D2 nD2 => lc_list (K := K) (a := Lo) (xs := [V.ref x1, V.ref x2, V.ref x3, V.ref x4])
        (fun i H' => Same H19 H' ∧ H' D2 = some (.lst (((res.map not).take i).map V.bl))) ⟨same_new (Same.refl' _) nD2, upd_same⟩ (fun i H' _ ⟨sc, _⟩ => sc.seq (SqL.of (S19 _ _ eLo18))) ?_ ?_⟩
      · rintro i xv H' hx ⟨sc, eD2⟩
        obtain ⟨a, gs2, rs2, rfl, ma, fa, er, es⟩ := each i xv hx
        rw [es] at er
        refine ⟨rfl, yes_go ?_⟩
        refine ⟨_, rfl, _, rfl, q_ne (ma.same (S19.trans sc)) fa (mm.same (S19.trans sc)) fit fun H'' s'' => ?_⟩
        refine ⟨_, s'' _ _ eD2, by rw [List.length_map, List.length_take]; exact small1000 (by have : (res.map not).length = 4 := rfl; omega), ?_, ?_⟩
        · intro b o e
          rw [upd_ne (ne_of_none e nD2)]
          exact s'' _ _ (sc _ _ e)
        · have er' : (res.map not)[i]? = some (!decide (gs2 = hs4 ∧ rs2 = rs)) := by rw [List.getElem?_map, er]; rfl
          rw [upd_same, take_more er', List.map_append]
          rfl
      · rintro H20 ⟨S20, eD2⟩
        have eD2' : H20 D2 = some (.lst ((res.map not).map V.bl)) := eD2
        have S20' : Same H18 H20 := S19.trans S20
        refine ⟨_, rfl, Du, rfl, ⟨_, SqL.of (S20' _ _ eDu')⟩, fun D3 nD3 => lc_list (K := K) (a := Du) (xs := res.map V.bl)
          (fun i H' => Same H20 H' ∧ H' D3 = some (.lst (((res.map not).take i).map V.bl))) ⟨same_new (Same.refl' _) nD3, upd_same⟩ (fun i H' _ ⟨sc, _⟩ => sc.seq (SqL.of (S20' _ _ eDu'))) ?_ ?_⟩
        · rintro i xv H' hx ⟨sc, eD3⟩
          obtain ⟨b, hb, rfl⟩ := get_map hx
          refine ⟨rfl, yes_go ?_⟩
          refine ⟨_, rfl, b, rfl, ?_⟩
          refine ⟨_, eD3, by rw [List.length_map, List.length_take]; exact small1000 (by have : (res.map not).length = 4 := rfl; omega), ?_, ?_⟩
          · intro b o e
            rw [upd_ne (ne_of_none e nD3)]
            exact sc _ _ e
          · have er' : (res.map not)[i]? = some (!b) := by rw [List.getElem?_map, hb]; rfl
            rw [upd_same, take_more er', List.map_append]
            rfl
        · rintro H21 ⟨S21, eD3⟩
          have eD3' : H21 D3 = some (.lst ((res.map not).map V.bl)) := eD3
          refine ⟨.list ((res.map not).map PyData.bool), .list ((res.map not).map PyData.bool), .lst (SqL.of (S21 _ _ eD2')) (dp_bls _), .lst (SqL.of eD3') (dp_bls _), shaped_bls _, shaped_bls _, _, rfl, ?_⟩
          have z2 : PyData.eqv (.list ((res.map not).map PyData.bool)) (.list ((res.map not).map PyData.bool)) = true := eqv_blsAll _
          rw [z2]
          refine iteF ?_
          have T21 : Same H4 H21 := (S18.trans S20').trans S21
          clear S21 eD3 eD3' eD2 eD2' S20 S20' S19 eD1 eD1' each
          -- for at, (one, other, most) in enumerate(rows)
          refine ⟨_, rfl, R, _, rfl, SqL.of (T21 _ _ eR4), for_it (walk_enum (K := K) (a := R) (xs := as.map V.ref))
            (fun i σ H' => ∃ w4 w5 w6 w7 w8 w9 w10 w11 w12 w13 w14 : Option V, σ = [some (.ref p), some (.ref m), some (.ref G), some (.ref R), w4, w5, w6, w7, w8, w9, w10, w11, w12, w13, w14] ∧ Same H4 H') ?_ ?_ ?_ ?_⟩
          · exact ⟨_, _, _, _, _, _, _, _, _, _, _, rfl, T21⟩
          · rintro i σ H' _ ⟨_, _, _, _, _, _, _, _, _, _, _, rfl, sc⟩
            exact SqL.of (sc _ _ eR4)
          · rintro i xv σ Hc H' hi ⟨w4, w5, w6, w7, w8, w9, w10, w11, w12, w13, w14, rfl, sc⟩ ⟨Tp, a, b, rfl, nT, rfl, e1, e2⟩
            cases e1
            obtain ⟨t, r, rfl, er, et⟩ := rows_at (rows_same rows4 sc) e2
            have st := same_new (o := .tup [V.int (i : Nat), V.ref t]) (Same.refl' Hc) nT
            have sT := sc.trans st
            have et' := st _ _ et
            have rowsT := rows_same rows4 sT
            have hr' : GoodRow hs4 r := fit.r r (List.mem_of_getElem? er)
            have hi' : i < rs.length := (List.getElem?_eq_some_iff.mp er).1
            have lw := low r (List.mem_of_getElem? er)
            refine ⟨Tp, _, rfl, SqT.of upd_same, rfl, _, _, rfl, _, _, rfl, t, _, rfl, SqT.of et', rfl, _, _, rfl, _, _, rfl, _, _, rfl, rfl, rfl, ?_⟩
            -- bent
            refine r_patch (i := i) (as := as) (rs := rs) (r := (r.1, r.2.1, r.2.2 + 1)) rfl rfl (sT _ _ eR4) rowsT hi' (by omega) ?_ ?_
            · intro K1 Q' k1 h
              exact ⟨_, rfl, _, rfl, _, rfl, _, _, rfl, rfl, by show 3 ≤ sizeLine; decide, fun t1 K2 n2 e2 k2 => h t1 K2 k2 e2⟩
            intro Lb bs1 H22 nLb eLb rb1 u1
            have sU1 := sT.trans u1
            -- turned
            refine r_patch (i := i) (as := as) (rs := rs) (r := (r.2.1, r.1, r.2.2)) rfl rfl (sU1 _ _ eR4) (rows_same rows4 sU1) hi' (by omega) ?_ ?_
            · intro K1 Q' k1 h
              exact ⟨_, rfl, _, rfl, _, rfl, by show 3 ≤ sizeLine; decide, fun t1 K2 n2 e2 k2 => h t1 K2 k2 e2⟩
            intro Lt bs2 H23 nLt eLt rb2 u2
            have sU2 := sU1.trans u2
            have inR : ∀ r2 : Row, GoodRow gs0 r2 → GoodRows gs0 (rs.take i ++ [r2] ++ rs.drop (i + 1)) := fun r2 h2 z hz => by
              rcases List.mem_append.mp hz with hz | hz
              · rcases List.mem_append.mp hz with hz | hz
                · exact rG z (List.mem_of_mem_take hz)
                · rw [List.mem_singleton.mp hz]; exact h2
              · exact rG z (List.mem_of_mem_drop hz)
            have lenR : ∀ r2 : Row, (rs.take i ++ [r2] ++ rs.drop (i + 1)).length = rs.length := fun r2 => by
              simp only [List.length_append, List.length_take, List.length_drop, List.length_cons, List.length_nil]; omega
            have neR : ∀ r2 : Row, r2 ≠ r → ¬ rs = rs.take i ++ [r2] ++ rs.drop (i + 1) := fun r2 n e => by
              have z : rs[i]? = (rs.take i ++ [r2] ++ rs.drop (i + 1))[i]? := congrArg (fun l : List Row => l[i]?) e
              rw [er, List.append_assoc, List.getElem?_append_right (by rw [List.length_take]; omega)] at z
              rw [List.length_take, Nat.min_eq_left (by omega), Nat.sub_self] at z
              exact n (Option.some.inj z).symm
            have hr0 := rG r (List.mem_of_getElem? er)
            refine ⟨_, rfl, _, rfl, _, rfl, rfl, rfl, ?_⟩
            refine q_new (.inl (SqL.of (sU2 _ _ eG4))) (.inl (SqL.of (u2 _ _ eLb))) (rows_same rb1 u2) G0 (inR _ ⟨hr0.ne, hr0.one, hr0.two, by show (r.2.2 + 1).natAbs ≤ 100; omega⟩) (by rw [lenR]; exact fit.n) fun x5 hs5 H24 nx5 ph5 fx5 mn5 s24 => ?_
            have e5 : hs5 = hs4 := fit_one fit fx5 (ph5.trans pm)
            subst e5
            have S24 := sU2.trans s24
            refine q_eq (hm4.same S24) fit mn5.at fx5 fun H25 s25 => ⟨_, rfl, ?_⟩
            have z5 : ¬ rs = rs.take i ++ [(r.1, r.2.1, r.2.2 + 1)] ++ rs.drop (i + 1) := neR _ fun e => by
              have := congrArg (fun z : Row => z.2.2) e
              simp at this
              omega
            rw [decide_eq_false (fun h => z5 h.2)]
            refine iteF ?_
            have S25 := S24.trans s25
            refine ⟨_, rfl, _, rfl, _, rfl, rfl, rfl, ?_⟩
            refine q_new (.inl (SqL.of (S25 _ _ eG4))) (.inl (SqL.of ((s24.trans s25) _ _ eLt))) (rows_same rb2 (s24.trans s25)) G0 (inR _ ⟨fun e => hr0.ne e.symm, hr0.two, hr0.one, hr0.most⟩) (by rw [lenR]; exact fit.n) fun x6 hs6 H26 nx6 ph6 fx6 mn6 s26 => ?_
            have e6 : hs6 = hs5 := fit_one fit fx6 (ph6.trans pm)
            subst e6
            have S26 := S25.trans s26
            refine q_eq (hm4.same S26) fit mn6.at fx6 fun H27 s27 => ⟨_, rfl, ?_⟩
            have z6 : ¬ rs = rs.take i ++ [(r.2.1, r.1, r.2.2)] ++ rs.drop (i + 1) := neR _ fun e => hr0.ne (congrArg (fun z : Row => z.2.1) e)
            rw [decide_eq_false (fun h => z6 h.2)]
            refine iteF ?_
            exact ⟨_, _, _, _, _, _, _, _, _, _, _, rfl, S26.trans s27⟩
          · rintro σ Hc ⟨w4, w5, w6, w7, w8, w9, w10, w11, w12, w13, w14, rfl, sc⟩
            have mc := hm4.same sc
            obtain ⟨dm, fm, em, _⟩ := mc.ins
            refine ⟨_, rfl, _, rfl, _, rfl, m, dm, fm, rfl, em, m, hs4, rs, rfl, mc, fit, fun H22 s22 => ⟨_, rfl, ?_⟩⟩
            have S22 := sc.trans s22
            refine ⟨_, rfl, _, rfl, by show 2 ≤ sizeLine; decide, fun Tt H23 nTt eTt s23 => ⟨by show 6 ≤ sizeLine; decide, fun Lt H24 nLt eLt s24 => ?_⟩⟩
            have S24 := (S22.trans s23).trans s24
            refine ⟨Lt, rfl, ⟨_, SqL.of eLt⟩, fun D5 nD5 => lc_list (K := K) (a := Lt) (xs := [V.non, V.int 0, V.ref G, V.ref R, V.str (reprM hs4 rs), V.ref Tt])
              (fun i H' => Same H24 H' ∧ H' D5 = some (.lst ((List.replicate i false).map V.bl))) ⟨same_new (Same.refl' _) nD5, upd_same⟩ (fun i H' _ ⟨sc, _⟩ => sc.seq (SqL.of eLt)) ?_ ?_⟩
            · rintro i xv H' hx ⟨sd, eD5⟩
              have T := S24.trans sd
              have nm : NoMoves K H' xv ∧ i < 6 := by
                match i, hx with
                | 0, hx => cases hx; exact ⟨.inr (.inl rfl), by decide⟩
                | 1, hx => cases hx; exact ⟨.inr (.inr (.inl ⟨0, rfl⟩)), by decide⟩
                | 2, hx => cases hx; exact ⟨.inl ⟨G, _, rfl, .inl (T _ _ eG4)⟩, by decide⟩
                | 3, hx => cases hx; exact ⟨.inl ⟨R, _, rfl, .inl (T _ _ eR4)⟩, by decide⟩
                | 4, hx => cases hx; exact ⟨.inr (.inr (.inr ⟨_, rfl⟩)), by decide⟩
                | 5, hx => cases hx; exact ⟨.inl ⟨Tt, _, rfl, .inr (sd _ _ (s24 _ _ eTt))⟩, by decide⟩
                | i + 6, hx => simp at hx
              refine ⟨rfl, yes_go ?_⟩
              refine ⟨_, rfl, _, rfl, q_eq0 (hm4.same T) fit nm.1 fun H'' s'' => ?_⟩
              refine ⟨_, s'' _ _ eD5, by rw [List.length_map, List.length_replicate]; exact small1000 (by omega), ?_, ?_⟩
              · intro b o e
                rw [upd_ne (ne_of_none e nD5)]
                exact s'' _ _ (sd _ _ e)
              · rw [upd_same, List.replicate_succ', List.map_append]
                rfl
            · rintro H25 ⟨S25, eD5⟩
              refine ⟨D5, List.replicate 6 false, rfl, SqL.of eD5, _, rfl, ?_⟩
              have T := b4.trans (But.of (S24.trans S25))
              exact q H25 (pot_same hp4 (S24.trans S25)) T
end
end KM

set_option Elab.async false
set_option linter.all false
set_option maxRecDepth 100000
set_option maxHeartbeats 4000000
namespace KM
open PySem PySem.Spec PyProof.Rows L2 GL
abbrev sCh : Stmt := top 35
/-- changed_right(pot, moves, goods, rows): True -/
def spChR (C : Addr) : Sp := fun vs H Q _ => ∃ (p m G R : Addr) (gs gs0 : List Str) (rs : List Row) (as : List Addr), vs = [.ref p, .ref m, .ref G, .ref R] ∧ PotAt H p ∧ MovesAt C H m gs rs ∧ Fit gs rs ∧ gs0.Perm gs ∧
  H G = some (.lst (gs0.map V.str)) ∧ H R = some (.lst (as.map V.ref)) ∧ RowsIn H as rs ∧ rs.length ≤ 10 ∧ (∀ r ∈ rs, r.2.2.natAbs ≤ 20) ∧ ∀ H', PotAt H' p → But p H H' → Q (.bl true) H'
abbrev nCh : List Str := ["_law_pot_here", "_law_moves", "_law_goods", "_law_rows", "_law_made", "_law_some", "_law_elder", "_law_turn", "_law_way", "_law_more", "_law_at", "_law_one", "_law_other", "_law_most", "_law_rest"]
/-- an elder state: Moves and the list of their conditions -/
def ElderAt (C E : Addr) (gs : List Str) (H : Hp) (e : Addr) : Prop := ∃ (mk Lk : Addr) (rk : List Row) (ak : List Addr), H e = some (.tup [.ref mk, .ref Lk]) ∧ MovesOff C E H mk gs rk ∧ Fit gs rk ∧ H Lk = some (.lst (ak.map V.ref)) ∧ Lk ≠ E ∧ RowsIn H ak rk
theorem refs_ne {H : Hp} {a p : Addr} {as : List Addr} (e : H a = some (.lst (as.map V.ref))) (hp : PotAt H p) : a ≠ p := by
  obtain ⟨x, y, e', _⟩ := hp
  refine ne_of e e' fun q => ?_
  cases as with
  | nil => cases q
  | cons b r => cases q
theorem strs_ne {H : Hp} {a p : Addr} {gs : List Str} (e : H a = some (.lst (gs.map V.str))) (hp : PotAt H p) : a ≠ p := by
  obtain ⟨x, y, e', _⟩ := hp
  refine ne_of e e' fun q => ?_
  cases gs with
  | nil => cases q
  | cons b r => cases q
theorem ElderAt.same {C E : Addr} {gs : List Str} {H H' : Hp} {e : Addr} (h : ElderAt C E gs H e) (s : Same H H') : ElderAt C E gs H' e := by
  obtain ⟨mk, Lk, rk, ak, e1, e2, e3, e4, e5, e6⟩ := h
  exact ⟨mk, Lk, rk, ak, s _ _ e1, e2.same s, e3, s _ _ e4, e5, rows_same e6 s⟩
theorem ElderAt.but {C E p : Addr} {gs : List Str} {H H' : Hp} {e : Addr} (h : ElderAt C E gs H e) (hp : PotAt H p) (b : But p H H') : ElderAt C E gs H' e := by
  obtain ⟨mk, Lk, rk, ak, e1, e2, e3, e4, e5, e6⟩ := h
  obtain ⟨x, y, ep, _⟩ := id hp
  exact ⟨mk, Lk, rk, ak, b _ _ (ne_of e1 ep (by intro q; cases q)) e1, e2.but hp b, e3, b _ _ (refs_ne e4 hp) e4, e5, rows_but e6 b ep⟩
theorem ElderAt.put {C E : Addr} {gs : List Str} {H H' : Hp} {e : Addr} {zs : List V} (h : ElderAt C E gs H e) (ez : H E = some (.lst zs)) (b : But E H H') : ElderAt C E gs H' e := by
  obtain ⟨mk, Lk, rk, ak, e1, e2, e3, e4, e5, e6⟩ := h
  exact ⟨mk, Lk, rk, ak, b _ _ (ne_of e1 ez (by intro q; cases q)) e1, e2.put ez b, e3, b _ _ e5 e4, e5, rows_but e6 b ez⟩
/-- what holds ahead of turn n; el: how many elder ones there are -/
def TInv (C p E : Addr) (gs : List Str) (H0 : Hp) (n el : Nat) (made so : Addr) (H' : Hp) : Prop :=
  ∃ (rs : List Row) (as es : List Addr), MovesOff C E H' made gs rs ∧ Fit gs rs ∧ rs.length ≤ 10 + n ∧ (∀ r ∈ rs, r.2.2.natAbs ≤ 20 + n) ∧ H' so = some (.lst (as.map V.ref)) ∧ so ≠ E ∧ RowsIn H' as rs ∧
    H' E = some (.lst (es.map V.ref)) ∧ es.length ≤ el ∧ (∀ e ∈ es, ElderAt C E gs H' e) ∧ PotAt H' p ∧ But p H0 H'
theorem seq_join {t u : TS} {D : L2.Ends} {σ : L2.St} {H : Hp} (P : L2.St → Hp → Prop) (hu : ∀ σ' H', P σ' H' → u D σ' H') (h : (∀ σ' H', P σ' H' → u D σ' H') → t { D with nx := u D } σ H) : tSeq t u D σ H := h hu
theorem seq_joinN {i : Nat} {x : V} {t u : TS} {D : L2.Ends} {σ : L2.St} {H : Hp} (P : L2.St → Hp → Prop) (hu : ∀ σ' H', P σ' H' → u D σ' H') (h : (∀ σ' H', P σ' H' → u D σ' H') → t { D with nx := u D } (σ.set i (some x)) H) : gName i x σ H ({ D with nx := tSeq t u D } : L2.Ends).nx := h hu
theorem or_join {c : Bool} {H1 : Hp} {A B : Hp → Prop} {U : (Bool → Hp → Prop) → Prop} (hA : ∀ Hx, Same H1 Hx → A Hx) (hU : (∀ Hx, Same H1 Hx → A Hx) → U (fun b H => if b = true then A H else B H)) :
    if c = true then (if true = true then A H1 else B H1) else U (fun b H => if b = true then A H else B H) := by
  cases c with
  | false => exact iteF (hU hA)
  | true => exact iteT (iteT (hA H1 (Same.refl' H1)))
theorem if_join {c : Bool} {a b : TE} {σ : L2.St} {H : Hp} {Qv : V → Hp → Prop} (P : V → Hp → Prop) (hQ : ∀ v Hx, P v Hx → Qv v Hx) (ha : (∀ v Hx, P v Hx → Qv v Hx) → a σ H Qv) (hb : (∀ v Hx, P v Hx → Qv v Hx) → b σ H Qv) : if c = true then a σ H Qv else b σ H Qv := by
  cases c with
  | false => exact iteF (hb hQ)
  | true => exact iteT (ha hQ)
theorem pot_off {H H' : Hp} {p E : Addr} (h : PotAt H p) (n : p ≠ E) (b : But E H H') : PotAt H' p := by
  obtain ⟨x, y, e, z⟩ := h
  exact ⟨x, y, b _ _ n e, z⟩
section
variable {P : Program} {w : World} {K : PySem.W.Frag} {mg : Str → Option Value} {base : Heap} {C : Addr}
theorem scCh : FnScope nCh ["_law_pot_here", "_law_moves", "_law_goods", "_law_rows"] (defScope sCh) :=
  ⟨rfl, rfl, rfl, by decide +kernel, rfl, by decide +kernel, by decide +kernel⟩
theorem add_ref' {C : Addr} (vs : List V) (H : Hp) (Q : VK) (h : spAdd C vs H Q E0) : spAdd C vs H (fun v H1 => (∃ a, v = .ref a) ∧ Q v H1) E0 := by
  obtain ⟨m, t, gs, rs, r, e, a, b, c, d, l, q⟩ := h
  exact ⟨m, t, gs, rs, r, e, a, b, c, d, l, fun x H' n s' z => ⟨⟨x, rfl⟩, q x H' n s' z⟩⟩
theorem ok_chr {f : Addr} {fd : FuncData} (F : Fun K "_law_changed_right" "_law_changed_right" sCh f fd) (T : Bi mg) (M : Mv P w K mg base C)
    (D : Has P w K mg base "_law_draw" 1 ["_law_pot_here", "_law_many"] spDraw) (I : Has P w K mg base "_law_pick" 2 ["_law_pot_here", "_law_some"] (spPick K))
    (J : Has P w K mg base "_law_is" 9 ["_law_moves", "_law_goods", "_law_rows"] (spIs C)) :
    FnG P w K mg base CX0 10 f fd ["_law_pot_here", "_law_moves", "_law_goods", "_law_rows"] (spChR C) := by
  refine okG F scCh (fun vs H Q E h => ?_) (fun cdv A out s H vs Q E g hr h => ?_)
  · obtain ⟨p, m, G, R, gs, gs0, rs, as, rfl, _⟩ := h
    rfl
  · obtain ⟨p, m, G, R, gs, gs0, rs, as, rfl, hp, hm, fit, pm, eG, eR, rows, len, low, q⟩ := h
    have hr1 : Room 1 _ := hr.mono (by decide)
    have hr2 : Room 2 _ := hr.mono (by decide)
    have hr8 : Room 8 _ := hr.mono (by decide)
    have hu := hr.units
    refine ⟨_, (pss_cons (ps_par3 (i := 4) (j := 5) (l := 6) (by rfl) scCh.nd rfl rfl rfl (by decide) (by decide) (by decide) rfl rfl rfl (pa_cons (pv 1) (pa_cons (pe_callTy call_listL (by rfl) T.list (by decide +kernel) (pa_cons (pv 3) pa_nil)) (pa_cons (pe_lstL pa_nil) pa_nil))) (by rfl))
      (pss_cons (ps_for PassesOwn.never rfl (pi_range1 (by rfl) T.range (pa_cons pe_int pa_nil)) (pg_name (i := 7) scCh.nd rfl (.inl rfl))
      (pss_cons (ps_expr (pe_bm PySem.F.plainAttrs_list PySem.F.slot_list_append PySem.F.type_list_append mt_appL (pv 6) (pa_cons (pe_tupL (pa_cons (pv 4) (pa_cons (pe_callTy call_listL (by rfl) T.list (by decide +kernel) (pa_cons (pv 5) pa_nil)) pa_nil))) pa_nil)))
      (pss_cons (ps_set (i := 8) scCh.nd rfl (.inl rfl) (pe_has D g hr1 (by rfl) (pa_cons (pv 0) (pa_cons pe_int pa_nil))))
      (pss_cons (ps_if (PW.pt (pw_or (pt_cmpR op_eq (pv 8) pe_int (nomark _)) (pw_or1 (pt_cmpR (op_eqD hu) (pv 5) (pe_lstL pa_nil) (nomark _))))) (pss_cons (ps_set (i := 9) scCh.nd rfl (.inl rfl) (pe_tupL (pa_cons (pe_has I g hr2 (by rfl) (pa_cons (pv 0) (pa_cons (pv 2) pa_nil))) (pa_cons pe_non (pa_cons (pe_op op_sub (pe_has D g hr1 (by rfl) (pa_cons (pv 0) (pa_cons pe_int pa_nil))) pe_int) pa_nil)))))
      (pss_cons (ps_set (i := 9) scCh.nd rfl (.inl rfl) (pe_ifExp (pt_cmpR op_eq (pe_has D g hr1 (by rfl) (pa_cons (pv 0) (pa_cons pe_int pa_nil))) pe_int (nomark _)) (pv 9) (pe_tupL (pa_cons pe_non (pa_cons (pe_ix ix_tup (pv 9) pe_int (fun _ _ => rfl)) (pa_cons (pe_ix ix_tup (pv 9) pe_int (fun _ _ => rfl)) pa_nil))))))
      (pss_one (ps_par (i := 4) (j := 5) (by rfl) scCh.nd rfl rfl (by decide) rfl rfl (pa_cons (pe_op (or_add M.add M.addc g hr8 add_ref') (pv 4) (pv 9)) (pa_cons (pe_op op_catL (pv 5) (pe_lstL (pa_cons (pv 9) pa_nil))) pa_nil)) (by rfl))))) (pss_cons (ps_set (i := 10) scCh.nd rfl (.inl rfl) (pe_has D g hr1 (by rfl) (pa_cons (pv 0) (pa_cons (pe_callB call_len_seq (by rfl) T.len PySem.boot_len (pa_cons (pv 5) pa_nil)) pa_nil))))
      (pss_cons (ps_asg (pe_ix ix_list (pv 5) (pv 10) (fun _ _ => rfl)) (pg_tup rfl (pgs_cons (pg_name (i := 11) scCh.nd rfl (.inl rfl)) (pgs_cons (pg_name (i := 12) scCh.nd rfl (.inl rfl)) (pgs_cons (pg_name (i := 13) scCh.nd rfl (.inl rfl)) pgs_nil)))))
      (pss_one (ps_if (pt_cmpR op_eq (pv 8) pe_int (nomark _)) (pss_one (ps_par (i := 4) (j := 5) (by rfl) scCh.nd rfl rfl (by decide) rfl rfl (pa_cons (pe_hasMK0 M.wo M.cl g hr8 (pv 4) (pk_cons (pv 10) pk_nil)) (pa_cons (pe_op op_catL (pe_slice slcL (pv 5) po_none (po_some (pv 10))) (pe_slice slcL (pv 5) (po_some (pe_op op_add (pv 10) pe_int)) po_none)) pa_nil)) (by rfl))) (pss_one (ps_par (i := 4) (j := 5) (by rfl) scCh.nd rfl rfl (by decide) rfl rfl (pa_cons (pe_hasM (n := 1) M.ti M.cl g hr8 rfl (pv 4) (pa_cons (pv 10) pa_nil)) (pa_cons (pe_op op_catL (pe_op op_catL (pe_slice slcL (pv 5) po_none (po_some (pv 10))) (pe_lstL (pa_cons (pe_tupL (pa_cons (pv 11) (pa_cons (pv 12) (pa_cons (pe_op op_sub (pv 13) pe_int) pa_nil)))) pa_nil))) (pe_slice slcL (pv 5) (po_some (pe_op op_add (pv 10) pe_int)) po_none)) pa_nil)) (by rfl))))))))
      (pss_one (ps_if (pt_not (pt_val (pe_has J g hr (by rfl) (pa_cons (pv 4) (pa_cons (pv 2) (pa_cons (pv 5) pa_nil)))))) (pss_one (ps_ret pe_bl)) pss_nil))))))
      (pss_one (ps_ret (pe_callB (cr_all (by rfl)) (by rfl) T.all (by decide +kernel) (pa_cons (pe_lc (own := [("_law_one", 11), ("_law_rest", 14)]) (g := gTup K 2 (gCons (gName 11) (gCons (gName 14) gNil))) (by rfl) scCh.nd (pi_list (pv 6)) (blkOk_by (own := [("_law_one", 11), ("_law_rest", 14)]) (N := nCh) (sc := defScope sCh) (by decide +kernel)) (fun _ _ _ _ _ => by exact pg_tup rfl (pgs_cons (pg_name (i := 11) scCh.nd rfl (.inl rfl)) (pgs_cons (pg_name (i := 14) scCh.nd rfl (.inl rfl)) pgs_nil))) (fun _ _ _ _ _ => pts_nil) (fun _ _ _ _ _ => by exact (pe_has J g hr (by rfl) (pa_cons (pv 11) (pa_cons (pv 2) (pa_cons (pv 14) pa_nil)))))) pa_nil)))))), ?_⟩
    have hGp := strs_ne eG hp
    have hRp := refs_ne eR hp
    have G0 : GoodGs gs0 := fit.g.perm pm
    refine ⟨_, rfl, _, rfl, R, _, rfl, .inl (SqL.of eR), fun So H1 nS eS s1 => ⟨by show 0 ≤ sizeLine; decide, fun E1 H2 nE eE s2 => ⟨_, _, _, rfl, ?_⟩⟩⟩
    have nE0 : H E1 = none := s1.free nE
    refine ⟨8, rfl, by decide, by decide, ?_⟩
    refine for_range (n := 8) (fun i σ H' => ∃ (made so : Addr) (w7 w8 w9 w10 w11 w12 w13 w14 : Option V), σ = [some (.ref p), some (.ref m), some (.ref G), some (.ref R), some (.ref made), some (.ref so), some (.ref E1), w7, w8, w9, w10, w11, w12, w13, w14] ∧
      TInv C p E1 gs H i i made so H') ?_ ?_ ?_
    · refine ⟨m, So, _, _, _, _, _, _, _, _, rfl, rs, as, [], ((hm.same s1).off nE).same s2, fit, by omega, fun r hr => by have := low r hr; omega, s2 _ _ eS, ne_of_none eS nE, rows_same rows (s1.trans s2), eE, Nat.le_refl _, fun e he => (by cases he), pot_same hp (s1.trans s2), But.of (s1.trans s2)⟩
    · rintro i σ Hc hi ⟨made, so, w7, w8, w9, w10, w11, w12, w13, w14, rfl, rs, as, es, mo, fi, l1, l2, eso, nso, rw0, eE1, l3, el, pot, bt⟩
      have sz := sizeLine_eq
      have hEp := refs_ne eE1 pot
      -- elder.append((made, list(some)))
      refine ⟨_, rfl, .inl ⟨rfl, _, SqL.of eE1⟩, _, rfl, _, rfl, so, _, rfl, .inl (SqL.of eso), fun L1 J1 n1 e1 u1 => ⟨by show 2 ≤ sizeLine; decide, fun T1 J2 n2 e2 u2 => ?_⟩⟩
      have u12 := u1.trans u2
      have eE2 := u12 _ _ eE1
      refine ⟨E1, _, .ref T1, rfl, rfl, eE2, by rw [List.length_map]; exact small1000 (by omega), fun J3 e3 b3 => ?_⟩
      have mo3 := (mo.same u12).put eE2 b3
      have eso3 := b3 _ _ nso (u12 _ _ eso)
      have rw3 := rows_but (rows_same rw0 u12) b3 eE2
      have pot3 : PotAt J3 p := pot_off (pot_same pot u12) hEp.symm b3
      have bt3 : But p H J3 := fun a o ha e => b3 _ _ (ne_of_none e nE0) (u12 _ _ (bt _ _ ha e))
      have T1E : T1 ≠ E1 := ne_of e2 eE2 (by intro q; cases q)
      have L1E : L1 ≠ E1 := ne_some n1 eE1
      have el3 : ∀ e ∈ es ++ [T1], ElderAt C E1 gs J3 e := fun e he => by
        rcases List.mem_append.mp he with he | he
        · exact ((el e he).same u12).put eE2 b3
        · rw [List.mem_singleton.mp he]
          exact ⟨made, L1, rs, as, b3 _ _ T1E e2, mo3, fi, b3 _ _ L1E (u2 _ _ e1), L1E, rw3⟩
      have eE3 : J3 E1 = some (.lst ((es ++ [T1]).map V.ref)) := by rw [e3]; simp
      have l3' : (es ++ [T1]).length ≤ i + 1 := by simp; omega
      generalize es ++ [T1] = es3 at el3 eE3 l3'
      clear mo eso rw0 eE1 l3 el pot bt e1 e2 n1 n2 u1 u2 u12 eE2 e3 b3 T1E L1E
      -- way = draw(pot, 3)
      refine ⟨_, rfl, rfl, rfl, p, 3, rfl, pot3, by decide, by decide, fun d J4 d0 d1 pot4 b4 => ?_⟩
      have inv4 : ∀ {Hx : Hp}, But p J3 Hx → PotAt Hx p → MovesOff C E1 Hx made gs rs ∧ Hx so = some (.lst (as.map V.ref)) ∧ RowsIn Hx as rs ∧ Hx E1 = some (.lst (es3.map V.ref)) ∧ (∀ e ∈ es3, ElderAt C E1 gs Hx e) ∧ But p H Hx ∧ Hx G = some (.lst (gs0.map V.str)) := fun {Hx} b _ => by
        obtain ⟨x3, y3, ep3, _⟩ := id pot3
        exact ⟨mo3.but pot3 b, b _ _ (refs_ne eso3 pot3) eso3, rows_but rw3 b ep3, b _ _ hEp eE3, fun e he => (el3 e he).but pot3 b, bt3.trans b, (bt3.trans b) _ _ hGp eG⟩
      refine seq_joinN (fun σ' H' => ∃ (made so : Addr) (w7 w8 w9 w10 w11 w12 w13 w14 : Option V), σ' = [some (.ref p), some (.ref m), some (.ref G), some (.ref R), some (.ref made), some (.ref so), some (.ref E1), w7, w8, w9, w10, w11, w12, w13, w14] ∧
        TInv C p E1 gs H (i + 1) (i + 1) made so H') ?_ ?_
      · rintro σ' Hy ⟨made', so', v7, v8, v9, v10, v11, v12, v13, v14, rfl, rs', as', es', mo', fi', l1', l2', eso', nso', rw', eE', l3', el', pot', bt'⟩
        refine ⟨_, rfl, _, rfl, _, rfl, rfl, rfl, made', G, so', gs, gs0, rs', as', rfl, mo'.at, fi', pm, bt' _ _ hGp eG, eso', rw', fun H' s' => ⟨_, rfl, ?_⟩⟩
        refine iteF ?_
        exact ⟨made', so', _, _, _, _, _, _, _, _, rfl, rs', as', es', mo'.same s', fi', l1', l2', s' _ _ eso', nso', rows_same rw' s', s' _ _ eE', l3', fun e he => (el' e he).same s', pot_same pot' s', bt'.trans (But.of s')⟩
      · intro k
        refine ⟨_, rfl, rfl, _, rfl, ?_⟩
        refine or_join ?_ ?_
        · intro Hx sx
          have bx : But p J3 Hx := b4.trans (But.of sx)
          have potx := pot_same pot4 sx
          obtain ⟨_, _, _, _, _, _, eGx⟩ := inv4 bx potx
          refine ⟨_, rfl, _, rfl, rfl, rfl, p, G, _, rfl, potx, SqL.of eGx, hGp, by rw [List.length_map]; exact G0.l1, by rw [List.length_map]; have := G0.l2; omega, fun i1 x1 J5 hx1 pot5 b5 => ?_⟩
          obtain ⟨g1, hg1, rfl⟩ := get_map hx1
          have m1 : g1 ∈ gs := (pm.mem_iff).mp (List.mem_of_getElem? hg1)
          refine ⟨_, rfl, rfl, rfl, p, 9, rfl, pot5, by decide, by decide, fun d2 J6 e0 e1 pot6 b6 => ⟨_, _, rfl, rfl, by show 3 ≤ sizeLine; decide, fun t1 J7 n7 e7 s7 => ?_⟩⟩
          have b7 : But p J3 J7 := ((bx.trans b5).trans b6).trans (But.of s7)
          have pot7 := pot_same pot6 s7
          refine ⟨_, rfl, rfl, rfl, p, 2, rfl, pot7, by decide, by decide, fun d3 J8 f0 f1 pot8 b8 => ⟨rfl, _, rfl, ?_⟩⟩
          have e8 : J8 t1 = some (.tup [.str g1, .non, .int (d2 - 3)]) := by
            obtain ⟨_, _, ep7, _⟩ := id pot7
            exact b8 _ _ (ne_of e7 ep7 (by intro q; cases q)) e7
          have b8' := b7.trans b8
          refine if_join (fun v Hy => ∃ u r, v = .ref u ∧ RowAt Hy u r ∧ GoodRow gs r ∧ r.2.2.natAbs ≤ 20 ∧ Same J8 Hy) ?_ ?_ ?_
          · rintro v Hy ⟨u, r, rfl, eu, gr, lr, sy⟩
            have by8 : But p J3 Hy := b8'.trans (But.of sy)
            have poty := pot_same pot8 sy
            obtain ⟨moy, esoy, rwy, eEy, ely, bty, eGy⟩ := inv4 by8 poty
            obtain ⟨dm, fm, em, _⟩ := moy.at.ins
            refine ⟨_, rfl, _, rfl, made, dm, fm, u, _, rfl, rfl, em, SqT.of eu, made, u, gs, rs, r, rfl, moy.at, fi, eu, gr, by omega, fun x2 J9 n9 s9 mn9 => ?_⟩
            refine ⟨_, rfl, _, rfl, by show 1 ≤ sizeLine; decide, fun L9 J10 n10 e10 s10 => ⟨so, L9, _, _, rfl, rfl, (s9.trans s10) _ _ esoy, e10, by rw [List.length_map]; have := Paired.length rwy; show as.length + 1 ≤ _; omega, fun S2 J11 n11 e11 s11 => ⟨_, _, rfl, ?_⟩⟩⟩
            have s911 := (s9.trans s10).trans s11
            refine k _ _ ⟨x2, S2, _, _, _, _, _, _, _, _, rfl, rs ++ [r], as ++ [u], es3, (mn9.off eEy).same (s10.trans s11), ⟨fi.g, fi.s, ?_, by simp; omega⟩, by simp; omega, ?_, by rw [e11]; simp, ne_some ((s9.trans s10).free n11) eEy, ?_, s911 _ _ eEy, by omega, fun e he => (ely e he).same s911, pot_same poty s911, bty.trans (But.of s911)⟩
            · intro z hz
              rcases List.mem_append.mp hz with hz | hz
              · exact fi.r z hz
              · rw [List.mem_singleton.mp hz]; exact gr
            · intro z hz
              rcases List.mem_append.mp hz with hz | hz
              · have := l2 z hz; omega
              · rw [List.mem_singleton.mp hz]; omega
            · exact rows_app (rows_same rwy s911) (.cons (s911 _ _ eu) .nil)
          · intro k2
            exact ⟨_, rfl, k2 _ _ ⟨t1, (some g1, none, d2 - 3), rfl, e8, ⟨by simp, (fun y e => by cases e; exact m1), (fun y e => by cases e), by show (d2 - 3).natAbs ≤ 100; omega⟩, by show (d2 - 3).natAbs ≤ 20; omega, Same.refl' _⟩⟩
          · intro k2
            refine ⟨_, rfl, t1, _, 0, .str g1, rfl, rfl, SqT.of e8, rfl, _, rfl, t1, _, 2, .int (d2 - 3), rfl, rfl, SqT.of e8, rfl, by show 3 ≤ sizeLine; decide, fun t2 J9 n9 e9 s9 => ?_⟩
            exact k2 _ _ ⟨t2, (none, some g1, d2 - 3), rfl, e9, ⟨by simp, (fun y e => by cases e), (fun y e => by cases e; exact m1), by show (d2 - 3).natAbs ≤ 100; omega⟩, by show (d2 - 3).natAbs ≤ 20; omega, s9⟩
        · intro hA
          obtain ⟨mo4, eso4, rw4, eE4, el4, bt4, eG4⟩ := inv4 b4 pot4
          refine ⟨_, rfl, by show 0 ≤ sizeLine; decide, fun Nl J5 n5 e5 s5 => ⟨rowsD rs, rowsD [], dp_rows (rows_same rw4 s5) (SqL.of (s5 _ _ eso4)), dp_rows (as := []) .nil (SqL.of e5), shaped_rows fi.g fi.r, shaped_rows fi.g (fun r hr => by cases hr), _, rfl, ?_⟩⟩
          rw [eqv_rows]
          refine ite2 (fun c => hA _ s5) (fun c => ?_)
          have hne : rs ≠ [] := by simpa using c
          have hpos : 0 < rs.length := List.length_pos_iff.mpr hne
          have la : (as.map V.ref).length = rs.length := by rw [List.length_map]; exact Paired.length rw4
          have pot5 := pot_same pot4 s5
          have b5 : But p J3 J5 := b4.trans (But.of s5)
          -- at = draw(pot, len(some))
          refine ⟨_, rfl, _, rfl, so, _, rfl, .inl (SqL.of (s5 _ _ eso4)), rfl, rfl, p, _, rfl, pot5, by omega, by omega, fun d4 J6 e0 e1 pot6 b6 => ?_⟩
          obtain ⟨j, rfl⟩ := Int.eq_ofNat_of_zero_le e0
          have hj : j < rs.length := by omega
          have b6' := b5.trans b6
          obtain ⟨mo6, eso6, rw6, eE6, el6, bt6, eG6⟩ := inv4 b6' pot6
          obtain ⟨v, a1, a2⟩ := atI_of (xs := as.map V.ref) (d := (j : Int)) (by omega) (by omega)
          obtain ⟨t, r, rfl, er, et⟩ := rows_at rw6 a2
          rw [Int.toNat_natCast] at er
          have grr := fi.r r (List.mem_of_getElem? er)
          have lrr := l2 r (List.mem_of_getElem? er)
          refine ⟨_, rfl, _, rfl, so, _, (j : Int), .ref t, rfl, rfl, SqL.of eso6, a1, t, _, rfl, SqT.of et, rfl, _, _, rfl, _, _, rfl, _, _, rfl, rfl, ?_⟩
          obtain ⟨dm, fm, em, lk⟩ := mo6.at.ins
          refine ⟨_, rfl, rfl, _, rfl, ?_⟩
          refine ite2 (fun c2 => ?_) (fun c2 => ?_)
          · refine ⟨_, rfl, made, dm, fm, rfl, em, lk _ (by decide +kernel) (by decide +kernel), _, rfl, rfl, rfl, made, gs, rs, j, rfl, mo6.at, fi, hj, fun x2 J7 n7 s7 mn7 => ?_⟩
            refine r_drop (i := j) (as := as) (rs := rs) rfl rfl (s7 _ _ eso6) (rows_same rw6 s7) hj (by omega) ?_
            intro L bs J8 nL eL rb s8
            have s78 := s7.trans s8
            refine ⟨_, _, rfl, k _ _ ⟨x2, L, _, _, _, _, _, _, _, _, rfl, rs.take j ++ rs.drop (j + 1), bs, es3, (mn7.off eE6).same s8, ⟨fi.g, fi.s, ?_, ?_⟩, ?_, ?_, eL, ne_some (s7.free nL) eE6, rb, s78 _ _ eE6, by omega, fun e he => (el6 e he).same s78, pot_same pot6 s78, bt6.trans (But.of s78)⟩⟩
            · intro z hz
              exact fi.r z ((List.mem_append.mp hz).elim List.mem_of_mem_take List.mem_of_mem_drop)
            · have := fi.n; simp only [List.length_append, List.length_take, List.length_drop]; omega
            · simp only [List.length_append, List.length_take, List.length_drop]; omega
            · intro z hz
              have := l2 z ((List.mem_append.mp hz).elim List.mem_of_mem_take List.mem_of_mem_drop)
              omega
          · refine ⟨_, rfl, made, dm, fm, rfl, em, lk _ (by decide +kernel) (by decide +kernel), _, rfl, rfl, rfl, made, gs, rs, r, j, rfl, mo6.at, fi, er, by omega, fun x2 J7 n7 s7 mn7 => ?_⟩
            refine r_patch (i := j) (as := as) (rs := rs) (r := less1 r) rfl rfl (s7 _ _ eso6) (rows_same rw6 s7) hj (by omega) ?_ ?_
            · intro K1 Q' k1 h
              exact ⟨_, rfl, _, rfl, _, rfl, _, _, rfl, rfl, by show 3 ≤ sizeLine; decide, fun t1 K2 n2 e2 k2 => h t1 K2 k2 e2⟩
            intro L bs J8 nL eL rb s8
            have s78 := s7.trans s8
            have mem3 : ∀ z ∈ rs.take j ++ [less1 r] ++ rs.drop (j + 1), z ∈ rs ∨ z = less1 r := fun z hz => by
              rcases List.mem_append.mp hz with hz | hz
              · rcases List.mem_append.mp hz with hz | hz
                · exact .inl (List.mem_of_mem_take hz)
                · exact .inr (List.mem_singleton.mp hz)
              · exact .inl (List.mem_of_mem_drop hz)
            have less : (less1 r).2.2.natAbs ≤ r.2.2.natAbs + 1 := by show (r.2.2 - 1).natAbs ≤ _; omega
            refine ⟨_, _, rfl, k _ _ ⟨x2, L, _, _, _, _, _, _, _, _, rfl, rs.take j ++ [less1 r] ++ rs.drop (j + 1), bs, es3, (mn7.off eE6).same s8, ⟨fi.g, fi.s, ?_, ?_⟩, ?_, ?_, eL, ne_some (s7.free nL) eE6, rb, s78 _ _ eE6, by omega, fun e he => (el6 e he).same s78, pot_same pot6 s78, bt6.trans (But.of s78)⟩⟩
            · intro z hz
              rcases mem3 z hz with hz | rfl
              · exact fi.r z hz
              · exact ⟨grr.ne, grr.one, grr.two, by omega⟩
            · have := fi.n; simp only [List.length_append, List.length_take, List.length_drop, List.length_cons, List.length_nil]; omega
            · simp only [List.length_append, List.length_take, List.length_drop, List.length_cons, List.length_nil]; omega
            · intro z hz
              rcases mem3 z hz with hz | rfl
              · have := l2 z hz; omega
              · omega
    · rintro σ Hc ⟨made, so, w7, w8, w9, w10, w11, w12, w13, w14, rfl, rs, as, es, mo, fi, l1, l2, eso, nso, rw0, eE1, l3, el, pot, bt⟩
      have eGc := bt _ _ hGp eG
      refine ⟨_, rfl, E1, rfl, ⟨_, SqL.of eE1⟩, fun D5 nD5 => lc_list (K := K) (a := E1) (xs := es.map V.ref)
        (fun i H' => Same Hc H' ∧ H' D5 = some (.lst ((List.replicate i true).map V.bl))) ⟨same_new (Same.refl' _) nD5, upd_same⟩ (fun i H' _ ⟨sc, _⟩ => sc.seq (SqL.of eE1)) ?_ ?_⟩
      · rintro i xv H' hx ⟨sd, eD5⟩
        obtain ⟨e, he, rfl⟩ := get_map hx
        obtain ⟨mk, Lk, rk, ak, f1, f2, f3, f4, f5, f6⟩ := (el e (List.mem_of_getElem? he)).same sd
        have il : i < es.length := (List.getElem?_eq_some_iff.mp he).1
        refine ⟨e, _, rfl, SqT.of f1, rfl, _, _, rfl, _, _, rfl, rfl, rfl, yes_go ?_⟩
        refine ⟨_, rfl, _, rfl, _, rfl, rfl, rfl, mk, G, Lk, gs, gs0, rk, ak, rfl, f2.at, f3, pm, sd _ _ eGc, f4, f6, fun H'' s'' => ?_⟩
        refine ⟨_, s'' _ _ eD5, by rw [List.length_map, List.length_replicate]; exact small1000 (by omega), ?_, ?_⟩
        · intro b o e
          rw [upd_ne (ne_of_none e nD5)]
          exact s'' _ _ (sd _ _ e)
        · rw [upd_same, List.replicate_succ', List.map_append]
          rfl
      · rintro H25 ⟨S25, eD5⟩
        rw [List.length_map] at eD5
        refine ⟨D5, List.replicate es.length true, rfl, SqL.of eD5, ?_⟩
        have z : (List.replicate es.length true).all id = true := by simp
        show Q (V.bl ((List.replicate es.length true).all id)) H25
        rw [z]
        exact q H25 (pot_same pot S25) (bt.trans (But.of S25))
end
end KM

set_option Elab.async false
set_option linter.all false
set_option maxRecDepth 100000
set_option maxHeartbeats 4000000
namespace KM
open PySem PySem.Spec PyProof.Rows L2 GL
abbrev sRt : Stmt := top 36
/-- right(pot): True -/
def spRight : Sp := fun vs H Q _ => ∃ p : Addr, vs = [.ref p] ∧ PotAt H p ∧ ∀ H', But p H H' → Q (.bl true) H'
theorem cut_nil (a b : Option Int) : cutV [] a b = [] := by
  unfold cutV
  simp
theorem cut_one (xs : List V) {j : Nat} (h : j ≤ 1) : ∃ j' : Nat, j' ≤ xs.length ∧ j' ≤ 1 ∧ cutV xs none (some ((j : Nat) : Int)) = xs.take j' := by
  by_cases k : j ≤ xs.length
  · exact ⟨j, k, h, cut_take k⟩
  · refine ⟨0, Nat.zero_le _, Nat.zero_le _, ?_⟩
    have e : xs = [] := List.length_eq_zero_iff.mp (by omega)
    rw [e, cut_nil]
    rfl
section
variable {P : Program} {w : World} {K : PySem.W.Frag} {mg : Str → Option Value} {base : Heap} {C : Addr}
theorem scRt : FnScope ["_law_pot_here", "_law_goods", "_law_rows", "_law_given", "_law_moves"] ["_law_pot_here"] (defScope sRt) :=
  ⟨rfl, rfl, rfl, by decide +kernel, rfl, by decide +kernel, by decide +kernel⟩
theorem ok_right {f : Addr} {fd : FuncData} (F : Fun K "_law_right" "_law_right" sRt f fd) (T : Bi mg) (M : Mv P w K mg base C)
    (S : Has P w K mg base "_law_scene" 3 ["_law_pot_here", "_law_most"] spScene)
    (D : Has P w K mg base "_law_draw" 1 ["_law_pot_here", "_law_many"] spDraw) (Y : Has P w K mg base "_law_mixed" 2 ["_law_pot_here", "_law_some"] (spMixed K))
    (J : Has P w K mg base "_law_is" 9 ["_law_moves", "_law_goods", "_law_rows"] (spIs C))
    (U : Has P w K mg base "_law_equal_right" 9 ["_law_pot_here", "_law_moves", "_law_goods", "_law_rows"] (spEqR C))
    (Zc : Has P w K mg base "_law_changed_right" 10 ["_law_pot_here", "_law_moves", "_law_goods", "_law_rows"] (spChR C)) :
    FnG P w K mg base CX0 11 f fd ["_law_pot_here"] spRight := by
  refine okG F scRt (fun vs H Q E h => ?_) (fun cdv A out s H vs Q E g hr h => ?_)
  · obtain ⟨p, rfl, _⟩ := h
    rfl
  · obtain ⟨p, rfl, hp, q⟩ := h
    have hr1 : Room 1 _ := hr.mono (by decide)
    have hr2 : Room 2 _ := hr.mono (by decide)
    have hr3 : Room 3 _ := hr.mono (by decide)
    have hr7 : Room 7 _ := hr.mono (by decide)
    have hr9 : Room 9 _ := hr.mono (by decide)
    have hu := hr.units
    have sz := sizeLine_eq
    obtain ⟨TD, sqT, mk1⟩ := M.mk1
    refine ⟨_, (pss_cons (ps_asg (pe_has S g hr3 (by rfl) (pa_cons (pv 0) (pa_cons pe_int pa_nil))) (pg_tup rfl (pgs_cons (pg_name (i := 1) scRt.nd rfl (.inl rfl)) (pgs_cons (pg_name (i := 2) scRt.nd rfl (.inl rfl)) pgs_nil))))
      (pss_cons (ps_set (i := 2) scRt.nd rfl (.inl rfl) (pe_op op_catL (pv 2) (pe_slice slcL (pv 2) po_none (po_some (pe_has D g hr1 (by rfl) (pa_cons (pv 0) (pa_cons pe_int pa_nil)))))))
      (pss_cons (ps_set (i := 3) scRt.nd rfl (.inl rfl) (pe_lstL (pa_cons (pe_has Y g hr2 (by rfl) (pa_cons (pv 0) (pa_cons (pv 1) pa_nil))) (pa_cons (pe_callTy call_listL (by rfl) T.list (by decide +kernel) (pa_cons (pv 2) pa_nil)) pa_nil))))
      (pss_cons (ps_set (i := 4) scRt.nd rfl (.inl rfl) (pe_hasC M.mk2 g hr7 (by rfl) M.gM (pa_cons (pe_ix ix_list (pv 3) pe_int (fun _ _ => rfl)) (pa_cons (pe_ix ix_list (pv 3) pe_int (fun _ _ => rfl)) pa_nil)) pk_nil))
      (pss_cons (ps_expr (pe_bm PySem.F.plainAttrs_list PySem.F.slot_list_append PySem.F.type_list_append mt_appL (pe_ix ix_list (pv 3) pe_int (fun _ _ => rfl)) (pa_cons pe_str pa_nil)))
      (pss_cons (ps_expr (pe_bm0 PySem.F.plainAttrs_list PySem.F.slot_list_clear PySem.F.type_list_clear mt_clrL (pe_ix ix_list (pv 3) pe_int (fun _ _ => rfl))))
      (pss_cons (ps_if (PW.pt (pw_or (pt_not (pt_val (pe_has J g hr9 (by rfl) (pa_cons (pv 4) (pa_cons (pv 1) (pa_cons (pv 2) pa_nil)))))) (pw_or1 (pt_not (pt_val (pe_has U g hr9 (by rfl) (pa_cons (pv 0) (pa_cons (pv 4) (pa_cons (pv 1) (pa_cons (pv 2) pa_nil)))))))))) (pss_one (ps_ret pe_bl)) pss_nil)
      (pss_cons (ps_if (PW.pt (pw_or (pt_not (pt_val (pe_has Zc g hr (by rfl) (pa_cons (pv 0) (pa_cons (pv 4) (pa_cons (pv 1) (pa_cons (pv 2) pa_nil))))))) (pw_or1 (pt_not (pt_val (pe_has J g hr9 (by rfl) (pa_cons (pv 4) (pa_cons (pv 1) (pa_cons (pv 2) pa_nil))))))))) (pss_one (ps_ret pe_bl)) pss_nil)
      (pss_one (ps_ret (pe_has J g hr9 (by rfl) (pa_cons (pe_hasC mk1 g hr7 (by rfl) M.gM (pa_cons (pv 1) pa_nil) pk_nil) (pa_cons (pv 1) (pa_cons (pe_lstL pa_nil) pa_nil)))))))))))))), ?_⟩
    obtain ⟨x0, y0, hpp, _⟩ := id hp
    refine ⟨_, rfl, rfl, rfl, p, 7, rfl, hp, by decide, fun gs rs G R t as H1 hg good low len nt nG nR GR et eG eR rows pot1 b1 => ⟨t, _, rfl, SqT.of et, rfl, _, _, rfl, _, _, rfl, rfl, ?_⟩⟩
    have GG := menu_good gs hg
    have Gzz := menu_zz gs hg
    have hGp : G ≠ p := ne_some nG hpp
    have hRp : R ≠ p := ne_some nR hpp
    have la : as.length = rs.length := Paired.length rows
    -- rows = rows + rows[:draw(pot, 2)]
    refine ⟨_, rfl, _, rfl, _, rfl, rfl, rfl, p, 2, rfl, pot1, by decide, by decide, fun d H2 d0 d1 pot2 b2 => ⟨d, rfl, R, _, rfl, SqL.of (b2 _ _ hRp eR), fun A1 H3 n3 e3 s3 => ?_⟩⟩
    obtain ⟨j, rfl⟩ := Int.eq_ofNat_of_zero_le d0
    obtain ⟨j', hj', hj1, hj⟩ := cut_one (as.map V.ref) (j := j) (by omega)
    rw [hj] at e3
    obtain ⟨x1, y1, hpp1, _⟩ := id pot1
    obtain ⟨x2, y2, hpp2, _⟩ := id pot2
    refine ⟨R, A1, _, _, rfl, rfl, s3 _ _ (b2 _ _ hRp eR), e3, by rw [List.length_take, List.length_map]; omega, fun R2 H4 n4 e4 s4 => ?_⟩
    have b14 : But p H1 H4 := (b2.trans (But.of s3)).trans (But.of s4)
    have eR2 : H4 R2 = some (.lst ((as ++ as.take j').map V.ref)) := by rw [e4]; simp [List.map_take]
    have rows4 : RowsIn H4 (as ++ as.take j') (rs ++ rs.take j') := by
      have z := rows_but rows b14 hpp1
      exact rows_app z (rows_take j' z)
    have pot4 := pot_same (pot_same pot2 s3) s4
    have hR2p : R2 ≠ p := ne_some (s3.free n4) hpp2
    have eG4 := b14 _ _ hGp eG
    have good4 : GoodRows gs (rs ++ rs.take j') := fun r hr => (List.mem_append.mp hr).elim (good r) fun h => good r (List.mem_of_mem_take h)
    have low4 : ∀ r ∈ rs ++ rs.take j', r.2.2.natAbs ≤ 9 := fun r hr => (List.mem_append.mp hr).elim (low r) fun h => low r (List.mem_of_mem_take h)
    have len4 : (rs ++ rs.take j').length ≤ 8 := by
      rw [List.length_append, List.length_take]
      omega
    have b4 : But p H H4 := b1.trans b14
    generalize rs ++ rs.take j' = rs4 at rows4 good4 low4 len4
    generalize as ++ as.take j' = as4 at rows4 eR2
    -- given = [mixed(pot, goods), list(rows)]
    refine ⟨_, rfl, _, rfl, rfl, rfl, p, G, _, rfl, pot4, SqL.of eG4, hGp, by rw [List.length_map]; have := GG.l2; omega, fun ys D5 H5 pm5 nD eD pot5 b5 => ?_⟩
    obtain ⟨hs0, ph0, rfl⟩ := perm_strs pm5
    obtain ⟨x4, y4, hpp4, _⟩ := id pot4
    obtain ⟨x5, y5, hpp5, _⟩ := id pot5
    refine ⟨_, rfl, R2, _, rfl, .inl (SqL.of (b5 _ _ hR2p eR2)), fun L6 H6 n6 e6 s6 => ⟨by show 2 ≤ sizeLine; decide, fun gv H7 n7 e7 s7 => ?_⟩⟩
    have s67 := s6.trans s7
    have b47 : But p H4 H7 := b5.trans (But.of s67)
    have rows7 := rows_but rows4 b47 hpp4
    have eD7 := s67 _ _ eD
    have eL7 := s7 _ _ e6
    have pot7 := pot_same pot5 s67
    have hDL : D5 ≠ L6 := ne_of_none eD n6
    have hGD : G ≠ D5 := ne_of_none eG4 nD
    have hRD : R2 ≠ D5 := ne_of_none eR2 nD
    have hRL : R2 ≠ L6 := ne_of_none (b5 _ _ hR2p eR2) n6
    have hGL : G ≠ L6 := ne_of_none (b5 _ _ hGp eG4) n6
    have hgD : gv ≠ D5 := (ne_of_none (s6 _ _ eD) n7).symm
    have hgL : gv ≠ L6 := (ne_of_none e6 n7).symm
    have hpD : p ≠ D5 := ne_of_none hpp4 nD
    have hpL : p ≠ L6 := ne_of_none hpp5 n6
    -- Moves(given[0], given[1])
    refine ⟨_, rfl, gv, _, 0, .ref D5, rfl, rfl, SqL.of e7, rfl, _, rfl, gv, _, 1, .ref L6, rfl, rfl, SqL.of e7, rfl, rfl, rfl, ?_⟩
    refine q_new (.inl (SqL.of eD7)) (.inl (SqL.of eL7)) rows7 (GG.perm ph0) (fun r hr => (good4 r hr).of_sub fun y hy => (ph0.mem_iff).mpr hy) (by omega) fun x hs H8 nx ph fx mn s8 => ?_
    have pgs : gs.Perm hs := (ph.trans ph0).symm
    -- given[0].append("no"), given[1].clear()
    refine ⟨_, rfl, gv, _, 0, .ref D5, rfl, rfl, SqL.of (s8 _ _ e7), rfl, .inl ⟨rfl, _, SqL.of (s8 _ _ eD7)⟩, D5, _, .str "no", rfl, rfl, s8 _ _ eD7, by rw [List.length_map]; have := ph0.length_eq; have := GG.l2; exact small1000 (by omega), fun H9 e9 b9 => ?_⟩
    have mn9 := mn.put eD7 (s8 _ _ eD7) b9
    have eL9 := b9 _ _ hDL.symm (s8 _ _ eL7)
    refine ⟨_, rfl, gv, _, 1, .ref L6, rfl, rfl, SqL.of (b9 _ _ hgD (s8 _ _ e7)), rfl, .inl ⟨rfl, _, SqL.of eL9⟩, L6, _, rfl, rfl, eL9, fun H10 e10 b10 => ?_⟩
    have mn10 := mn9.put eL7 eL9 b10
    have far : ∀ a o, a ≠ D5 → a ≠ L6 → H7 a = some o → H10 a = some o := fun a o h1 h2 e => b10 _ _ h2 (b9 _ _ h1 (s8 _ _ e))
    have eG10 := far _ _ hGD hGL (b47 _ _ hGp eG4)
    have eR10 := far _ _ hRD hRL (b47 _ _ hR2p eR2)
    have rows10 : RowsIn H10 as4 rs4 := rows_but (rows_but (rows_same rows7 s8) b9 (s8 _ _ eD7)) b10 eL9
    have pot10 : PotAt H10 p := by
      obtain ⟨a, b, e, z⟩ := pot7
      exact ⟨a, b, far _ _ hpD hpL e, z⟩
    have b10' : But p H H10 := fun a o ha e => by
      have e4 := b4 _ _ ha e
      have e5 := b5 _ _ ha e4
      exact far _ _ (ne_of_none e4 nD) (ne_of_none e5 n6) (s67 _ _ e5)
    -- is, equal_right
    refine ⟨_, rfl, _, rfl, _, rfl, rfl, rfl, x, G, R2, hs, gs, rs4, as4, rfl, mn10.at, fx, pgs, eG10, eR10, rows10, fun H11 s11 => ⟨_, rfl, ?_⟩⟩
    refine iteF ?_
    obtain ⟨x10, y10, hpp10, _⟩ := id pot10
    refine ⟨_, rfl, _, rfl, _, rfl, _, rfl, rfl, rfl, p, x, G, R2, hs, gs, rs4, as4, rfl, pot_same pot10 s11, mn10.at.same s11, fx, pgs, Gzz, s11 _ _ eG10, s11 _ _ eR10, rows_same rows10 s11, by omega, fun r hr => by have := low4 r hr; omega, fun H12 pot12 b12 => ⟨_, rfl, ?_⟩⟩
    refine iteF ?_
    have c12 : But p H10 H12 := (But.of s11).trans b12
    refine ⟨_, rfl, _, rfl, _, rfl, _, rfl, rfl, rfl, p, x, G, R2, hs, gs, rs4, as4, rfl, pot12, mn10.at.but pot10 c12, fx, pgs, c12 _ _ hGp eG10, c12 _ _ hR2p eR10, rows_but rows10 c12 hpp10, by omega, fun r hr => by have := low4 r hr; omega, fun H13 pot13 b13 => ⟨_, rfl, ?_⟩⟩
    refine iteF ?_
    have c13 : But p H10 H13 := c12.trans b13
    refine ⟨_, rfl, _, rfl, _, rfl, rfl, rfl, x, G, R2, hs, gs, rs4, as4, rfl, mn10.at.but pot10 c13, fx, pgs, c13 _ _ hGp eG10, c13 _ _ hR2p eR10, rows_but rows10 c13 hpp10, fun H14 s14 => ⟨_, rfl, ?_⟩⟩
    refine iteF ?_
    have c14 : But p H10 H14 := c13.trans (But.of s14)
    have eG14 := c14 _ _ hGp eG10
    refine ⟨_, rfl, rfl, rfl, ?_⟩
    refine q_new (rs := []) (as := []) (D := TD) (.inl (SqL.of eG14)) (.inr (sqt_any sqT _)) .nil GG (fun r h => (by cases h)) (by decide) fun x2 hs2 H15 nx2 ph2 fx2 mn2 s15 => ?_
    refine ⟨_, rfl, by show 0 ≤ sizeLine; decide, fun Nl H16 n16 e16 s16 => ⟨rfl, rfl, x2, G, Nl, hs2, gs, [], [], rfl, mn2.at.same s16, fx2, ph2.symm, s16 _ _ (s15 _ _ eG14), e16, .nil, fun H17 s17 => ?_⟩⟩
    exact q H17 (b10'.trans (c14.trans (But.of ((s15.trans s16).trans s17))))
end
end KM

set_option Elab.async false
set_option linter.all false
set_option maxRecDepth 100000
set_option maxHeartbeats 4000000
namespace KM
open PySem PySem.Spec PyProof.Rows L2 GL
abbrev sLaw : Stmt := top 37
abbrev nLaw : List Str := ["_law_script", "_law_k"]
/-- pot(script, k): a new pot -/
def spPot (K : PySem.W.Frag) : Sp := fun vs H Q _ => ∃ (a : Addr) (k : Nat) (ns : List Int), vs = [.ref a, .int k] ∧ SqL K H a (ns.map V.int) ∧ k < 4 ∧ ∀ p H', H p = none → PotAt H' p → Same H H' → Q (.ref p) H'
def spLaw (K : PySem.W.Frag) : Sp := fun vs H Q _ => ∃ (a : Addr) (ns : List Int), vs = [.ref a] ∧ SqL K H a (ns.map V.int) ∧ ∀ H', Q (.bl true) H'
theorem at_int {ns : List Int} {k : Nat} (h : k < ns.length) : ∃ z, atI (ns.map V.int) (k : Int) = some (.int z) := by
  obtain ⟨v, e, q⟩ := atI_of (xs := ns.map V.int) (d := (k : Int)) (by omega) (by rw [List.length_map]; omega)
  rw [Int.toNat_natCast] at q
  obtain ⟨z, _, rfl⟩ := get_map q
  exact ⟨z, e⟩
section
variable {P : Program} {w : World} {K : PySem.W.Frag} {mg : Str → Option Value} {base : Heap} {C : Addr}
theorem scPot : FnScope ["_law_script", "_law_k", "_law_cell"] ["_law_script", "_law_k"] (defScope sPot) :=
  ⟨rfl, rfl, rfl, by decide +kernel, rfl, by decide +kernel, by decide +kernel⟩
theorem scLaw : FnScope nLaw ["_law_script"] (defScope sLaw) :=
  ⟨rfl, rfl, rfl, by decide +kernel, rfl, by decide +kernel, by decide +kernel⟩
theorem ok_pot {f : Addr} {fd : FuncData} (F : Fun K "_law_pot" "_law_pot" sPot f fd) (T : Bi mg) :
    FnG P w K mg base CX0 1 f fd ["_law_script", "_law_k"] (spPot K) := by
  refine okG F scPot (fun vs H Q E h => ?_) (fun cdv A out s H vs Q E g hr h => ?_)
  · obtain ⟨a, k, ns, rfl, _⟩ := h
    rfl
  · obtain ⟨a, k, ns, rfl, hS, hk, q⟩ := h
    refine ⟨_, (pss_cons (ps_set (i := 2) scPot.nd rfl (.inl rfl) (pe_op op_add (pe_op op_mul pe_int (pv 1)) pe_int))
      (pss_cons (ps_if (pt_cmpR op_lt (pv 1) (pe_callB call_len_seq (by rfl) T.len PySem.boot_len (pa_cons (pv 0) pa_nil)) (nomark _)) (pss_one (ps_set (i := 2) scPot.nd rfl (.inl rfl) (pe_callB call_abs (by rfl) T.abs (by decide +kernel) (pa_cons (pe_ix ix_list (pv 0) (pv 1) (fun _ _ => rfl)) pa_nil)))) pss_nil)
      (pss_one (ps_ret (pe_lstL (pa_cons (pe_callB (call_max2 (by rfl)) (by rfl) T.max (by decide +kernel) (pa_cons pe_int (pa_cons (pe_op op_sub (pv 2) (pe_op op_pow pe_int pe_int)) pa_nil))) (pa_cons (pe_op op_add (pe_op op_mod_l (pe_callTy call_int1 (by rfl) T.int (by decide +kernel) (pa_cons (pe_op op_mul (pe_callTy call_int1 (by rfl) T.int (by decide +kernel) (pa_cons (pe_op op_add (pe_op op_mod_l (pe_callTy call_int1 (by rfl) T.int (by decide +kernel) (pa_cons (pv 2) pa_nil)) pe_int) pe_int) pa_nil)) (pe_op op_pow (pe_op op_add (pe_op op_mul pe_int (pv 1)) pe_int) pe_int)) pa_nil)) pe_int) pe_int) pa_nil))))))), ?_⟩
    refine ⟨_, rfl, _, _, rfl, rfl, .inl ⟨by decide, by decide⟩, _, _, rfl, rfl, ?_⟩
    -- the last row
    have fin : ∀ c : Int, tRet (tLstL (tCons (tCB (fun xs H Q => ∃ i j, xs = [.int i, .int j] ∧ Q (.int (if j > i then j else i)) H) (tCons (tC (.int 0)) (tCons (tOp (rI0 fun i j => .int (i - j)) (tVar 2) (tOp (rI CPow fun i j => .int (i ^ j.toNat)) (tC (.int 10)) (tC (.int 18)))) tNil)))
        (tCons (tOp (rI0 fun i j => .int (i + j)) (tOp rModL (tCB (fun xs H Q => (∃ i, xs = [.int i] ∧ Q (.int i) H) ∨ ∃ k, xs = [.bl k] ∧ Q (.int (if k then 1 else 0)) H) (tCons (tOp (rI CMul fun i j => .int (i * j))
          (tCB (fun xs H Q => (∃ i, xs = [.int i] ∧ Q (.int i) H) ∨ ∃ k, xs = [.bl k] ∧ Q (.int (if k then 1 else 0)) H) (tCons (tOp (rI0 fun i j => .int (i + j)) (tOp rModL (tCB (fun xs H Q => (∃ i, xs = [.int i] ∧ Q (.int i) H) ∨ ∃ k, xs = [.bl k] ∧ Q (.int (if k then 1 else 0)) H) (tCons (tVar 2) tNil)) (tC (.int 2147483549))) (tC (.int 17))) tNil))
          (tOp (rI CPow fun i j => .int (i ^ j.toNat)) (tOp (rI0 fun i j => .int (i + j)) (tOp (rI CMul fun i j => .int (i * j)) (tC (.int 2)) (tVar 1)) (tC (.int 5))) (tC (.int 3)))) tNil)) (tC (.int 2147483477))) (tC (.int 1))) tNil)))
        { nx := fun _ H' => Q .non H', rt := Q } [some (.ref a), some (.int k), some (.int c)] H := fun c => by
      refine ⟨_, rfl, _, _, rfl, rfl, ⟨by decide, by decide, by decide⟩, _, _, rfl, rfl, _, _, rfl, ?_⟩
      refine ⟨_, rfl, .inl ⟨_, rfl, _, _, rfl, rfl, by decide, fun r r0 r1 _ => ⟨_, _, rfl, rfl, .inl ⟨_, rfl, ?_⟩⟩⟩⟩
      refine ⟨_, rfl, _, _, rfl, rfl, .inl ⟨by decide, by decide⟩, _, _, rfl, rfl, _, _, rfl, rfl, ⟨by decide, by decide, by omega⟩, ?_⟩
      refine ⟨_, _, rfl, rfl, .inl ⟨by omega, by omega⟩, .inl ⟨_, rfl, _, _, rfl, rfl, by decide, fun b b0 b1 _ => ⟨_, _, rfl, rfl, by show 2 ≤ sizeLine; decide, fun p H' n e s' => ?_⟩⟩⟩
      refine q p H' n ⟨_, _, e, ?_, by omega, by omega⟩ s'
      split <;> omega
    refine ⟨_, rfl, _, rfl, a, _, rfl, .inl hS, _, _, rfl, rfl, _, rfl, ?_⟩
    refine ite2 (fun c => ?_) (fun c => ?_)
    · have c1 : (k : Int) < (ns.map V.int).length := of_decide_eq_true c
      rw [List.length_map] at c1
      obtain ⟨z, hz⟩ := at_int (ns := ns) (k := k) (by omega)
      refine ⟨_, rfl, _, rfl, a, _, (k : Int), .int z, rfl, rfl, hS, hz, _, rfl, ?_⟩
      exact fin _
    · exact fin _
theorem ok_law {f : Addr} {fd : FuncData} (F : Fun K "law" "law" sLaw f fd) (T : Bi mg) (O : Has P w K mg base "_law_pot" 1 ["_law_script", "_law_k"] (spPot K))
    (R : Has P w K mg base "_law_right" 11 ["_law_pot_here"] spRight) : FnG P w K mg base CX0 12 f fd ["_law_script"] (spLaw K) := by
  refine okG F scLaw (fun vs H Q E h => ?_) (fun cdv A out s H vs Q E g hr h => ?_)
  · obtain ⟨a, ns, rfl, _⟩ := h
    rfl
  · obtain ⟨a, ns, rfl, hS, q⟩ := h
    have hr1 : Room 1 _ := hr.mono (by decide)
    refine ⟨_, (pss_one (ps_ret (pe_callB (cr_all (by rfl)) (by rfl) T.all (by decide +kernel) (pa_cons (pe_lc (own := [("_law_k", 1)]) (g := gName 1) (by rfl) scLaw.nd (pi_range1 (by rfl) T.range (pa_cons (pe_callB (call_max2 (by rfl)) (by rfl) T.max (by decide +kernel) (pa_cons pe_int (pa_cons (pe_callB (call_min2 (by rfl)) (by rfl) T.min (by decide +kernel) (pa_cons pe_int (pa_cons (pe_callB call_len_seq (by rfl) T.len PySem.boot_len (pa_cons (pv 0) pa_nil)) pa_nil))) pa_nil))) pa_nil)) (blkOk_by (own := [("_law_k", 1)]) (N := nLaw) (sc := defScope sLaw) (by decide +kernel)) (fun _ _ _ _ _ => pg_name (i := 1) scLaw.nd rfl (.inl rfl)) (fun _ _ _ _ _ => pts_nil) (fun _ _ _ _ _ => by exact (pe_has R g hr (by rfl) (pa_cons (pe_has O g hr1 (by rfl) (pa_cons (pv 0) (pa_cons (pv 1) pa_nil))) pa_nil)))) pa_nil)))), ?_⟩
    obtain ⟨N, hN, n0, n4⟩ : ∃ N : Int, (if (if ((ns.map V.int).length : Int) < 4 then ((ns.map V.int).length : Int) else 4) > 1 then (if ((ns.map V.int).length : Int) < 4 then ((ns.map V.int).length : Int) else 4) else 1) = N ∧ 0 ≤ N ∧ N ≤ 4 := by
      refine ⟨_, rfl, ?_, ?_⟩ <;> split <;> (try split) <;> omega
    refine ⟨_, rfl, a, _, rfl, .inl hS, 4, _, rfl, 1, _, rfl, N, congrArg (fun z => [V.int z]) hN, by omega, by omega, fun D5 nD5 => lc_range (lo := 0) (n := N.toNat)
      (fun i H' => Same H H' ∧ H' D5 = some (.lst ((List.replicate i true).map V.bl))) ⟨same_new (Same.refl' _) nD5, upd_same⟩ ?_ ?_⟩
    · rintro i H' hi ⟨sd, eD5⟩
      refine ⟨rfl, yes_go ?_⟩
      refine ⟨_, rfl, _, rfl, rfl, rfl, a, i, ns, congrArg (fun z => [V.ref a, V.int z]) (Int.zero_add _), sd.seq hS, by omega, fun p H2 np pot s2 => ⟨rfl, rfl, p, rfl, pot, fun H3 b3 => ?_⟩⟩
      have nDp : D5 ≠ p := ne_of_none eD5 np
      have far : ∀ c o, H c = some o → H3 c = some o := fun c o e => b3 _ _ (ne_of_none (sd _ _ e) np) (s2 _ _ (sd _ _ e))
      refine ⟨_, b3 _ _ nDp (s2 _ _ eD5), by rw [List.length_map, List.length_replicate]; exact small1000 (by omega), ?_, ?_⟩
      · intro c o e
        rw [upd_ne (ne_of_none e nD5)]
        exact far c o e
      · rw [upd_same, List.replicate_succ', List.map_append]
        rfl
    · rintro H25 ⟨S25, eD5⟩
      refine ⟨D5, List.replicate N.toNat true, rfl, SqL.of eD5, ?_⟩
      have z : (List.replicate N.toNat true).all id = true := by simp
      show Q (V.bl ((List.replicate N.toNat true).all id)) H25
      rw [z]
      exact q H25
end
end KM

set_option Elab.async false
set_option linter.all false
set_option maxRecDepth 100000
set_option maxHeartbeats 4000000
/-! The end: a promise that is kept where no guard is up is kept by the law's own call. -/
namespace GL
open PySem PySem.Spec PyProof.Rows L2
theorem clr0 : Clr callerA := rfl

section
variable {P : Program} {w : World} {K : PySem.W.Frag} {mg mb : Str → Option Value} {k : Nat} {f p : Addr} {fd : FuncData} {x : Str} {sp : Sp} {s0 : Shared} {us : List Value} {zs : List Int}
/-- what the end of the law's call tells -/
abbrev Told (s0 : Shared) : Result → Shared → Prop := fun r s2 =>
  r = .ok (.ret (.bool true)) ∧ OldK s0.heap s2.heap ∧ s2.os = s0.os ∧ AllBare s2.gens
/-- the call from a heap of letters: nothing but the script at p may stand in it -/
theorem call_from (H : Hp) (kin : K.In s0.heap) (nsG : s0.heap.Ns mainGlobals mg) (nsB : s0.heap.Ns builtinsNs mb)
    (boot : ∀ y : Str, y ≠ "__name__" → mb y = bootBuiltins y) (lim : s0.heap.NoLimit) (gens : s0.gens = #[])
    (hp : s0.heap.get? p = some { cls := .type "list", data := .seq us.toArray }) (room : Room k callerA)
    (F : ∀ base : Heap, K.In base → base.Ns mainGlobals mg → FnG P w K mg base CX0 k f fd [x] sp) (bnd : ∀ (s : Shared) (u : Value), BindsTo s fd ⟨[u], []⟩ [(x, u)])
    (only : Only H) (ok : HOk P w H s0.heap) (here : ∀ b, H b ≠ none → b = p) (off : H p ≠ none → K.lookup p = none)
    (hq : sp [.ref p] H (fun v _ => v = .bl true) fun _ _ _ => False) : codeAny (model P w) callerA (.call (.ref f) ⟨[.ref p], []⟩) (Told s0) s0 := by
  have keep : ∀ {b : Addr} {o : Obj}, s0.heap.get? b = some o → H b = none → (hidT s0.heap H).get? b = some o := fun e n => hidT_get e n
  have clean : ∀ {b : Addr} {o : Obj}, s0.heap.get? b = some o → (b = p → H p = none) → H b = none := fun {b o} _ h => by
    by_cases q : H b = none
    · exact q
    · have z := here b q
      rw [z] at q ⊢
      exact h z
  have nsH : ∀ {b : Addr} {m : Str → Option Value}, s0.heap.Ns b m → (hidT s0.heap H).Ns b m := by
    rintro b m ⟨o, es, ep, e, d, r⟩
    refine ⟨o, es, ep, keep e (clean e fun z => ?_), d, r⟩
    rw [z, hp] at e
    cases e
    cases (show Data.seq us.toArray _ = Data.dict es ep from d)
  have kinH : K.In (hidT s0.heap H) := fun b o e => keep (kin b o e) (clean (kin b o e) fun z => by
    by_cases q : H p = none
    · exact q
    · rw [z, off q] at e
      cases e)
  obtain ⟨ml, l1, l2⟩ := lim
  have md : Mod K mg (hidT s0.heap H) := ⟨kinH, nsH nsG, ⟨mb, nsH nsB, boot⟩, ml, nsH l1, l2⟩
  have ev : Env0 P w K mg (hidT s0.heap H) callerA [] s0 H :=
    { frames := rfl, mod := md, bs := fun b o e => of_hidT e, bsz := Nat.le_of_eq (hidT_size _ _), funs := trivial, frf := fun b hb => (List.not_mem_nil (show b ∈ ([] : List Addr) from hb)).elim, hok := ok, bare := .of_eq gens }
  have run := (F _ kinH (nsH nsG)).go callerA [] s0 H ⟨[.ref p], []⟩ [.ref p] [.ref p] _ _ clr0 room ev (bnd s0 (.ref p)) (.cons rfl .nil) hq
  refine codeAny_mono run ?_
  rintro (e | fl) s2 h
  · exact False.elim h
  · cases fl with
    | ret u =>
      obtain ⟨v, H2, os, bare, un, ok2, rel, tv⟩ := h
      obtain rfl : v = .bl true := tv
      obtain rfl : u = Value.bool true := rel
      refine ⟨rfl, OldK.of_keep fun b o e => ?_, os, bare⟩
      by_cases q : H b = none
      · exact un.keep b o e q (fun z => List.not_mem_nil (show b ∈ ([] : List Addr) from z)) (by simp)
      · rcases only b with z | ⟨ob, xs, z⟩
        · exact absurd z q
        · obtain ⟨e1, _⟩ := ok b _ z
          obtain ⟨e2, _⟩ := ok2 b _ (un.frzs b ob _ z)
          rw [← e, e1]
          exact e2
    | next => exact False.elim h
    | brk => exact False.elim h
    | cont => exact False.elim h
theorem call_law (kin : K.In s0.heap) (nsG : s0.heap.Ns mainGlobals mg) (nsB : s0.heap.Ns builtinsNs mb)
    (boot : ∀ y : Str, y ≠ "__name__" → mb y = bootBuiltins y) (lim : s0.heap.NoLimit) (gens : s0.gens = #[])
    (hp : s0.heap.get? p = some { cls := .type "list", data := .seq us.toArray }) (whole : IntsAre us zs) (len : zs.length ≤ sizeLine) (room : Room k callerA)
    (F : ∀ base : Heap, K.In base → base.Ns mainGlobals mg → FnG P w K mg base CX0 k f fd [x] sp) (bnd : ∀ (s : Shared) (u : Value), BindsTo s fd ⟨[u], []⟩ [(x, u)])
    (hq : ∀ H : Hp, Only H → SqL K H p (zs.map V.int) → sp [.ref p] H (fun v _ => v = .bl true) fun _ _ _ => False) : codeAny (model P w) callerA (.call (.ref f) ⟨[.ref p], []⟩) (Told s0) s0 := by
  have rel := vals_ints whole
  have lenU := whole.length
  cases own : K.lookup p with
  | none =>
    let o0 : Obj := { cls := .type "list", data := .seq us.toArray }
    let H0 : Hp := fun b => if b = p then some (.frz o0 (.lst (zs.map V.int))) else none
    have at0 : H0 p = some (.frz o0 (.lst (zs.map V.int))) := if_pos rfl
    have no0 : ∀ {b : Addr}, b ≠ p → H0 b = none := fun n => if_neg n
    have back : ∀ {b : Addr} {o : HO}, H0 b = some o → b = p ∧ o = .frz o0 (.lst (zs.map V.int)) := fun {b o} z => by
      by_cases q : b = p
      · subst q
        exact ⟨rfl, (Option.some.inj (at0.symm.trans z)).symm⟩
      · rw [no0 q] at z
        cases z
    have on0 : Only H0 := fun b => by
      by_cases q : b = p
      · subst q
        exact .inr ⟨_, _, at0⟩
      · exact .inl (no0 q)
    refine call_from H0 kin nsG nsB boot lim gens hp room F bnd on0 (fun b o z => ?_) (fun b z => ?_) (fun _ => own) (hq H0 on0 (.inl (.inr ⟨o0, at0⟩)))
    · obtain ⟨rfl, rfl⟩ := back z
      exact ⟨hp, by rw [List.length_map]; exact len, us, _, rel, hp⟩
    · by_cases q : b = p
      · exact q
      · exact absurd (no0 q) z
  | some o =>
    obtain rfl : o = _ := Option.some.inj ((kin p o own).symm.trans hp)
    have on1 : Only fun _ => none := fun _ => .inl rfl
    refine call_from (fun _ => none) kin nsG nsB boot lim gens hp room F bnd on1 (fun b o z => by cases (show (none : Option HO) = some o from z)) (fun b z => absurd rfl z) (fun z => absurd rfl z) (hq _ on1 ?_)
    exact .inr ⟨_, us.toArray, _, own, rfl, rfl, rfl, by rw [List.size_toArray, lenU]; exact len, by simpa using rel⟩
end
theorem walk_g {l : PySem.W.OpenLaw} {n k : Nat} {q : Program} {loose : List Str} {XP : (Str → Option Value) → Heap → Prop} {YP : World → Heap → Prop} {d : DefRec} {K : Params → PySem.W.Frag} {x : Str} {sp : PySem.W.Frag → Sp}
    (most : l.most = some n) (small : n ≤ sizeLine) (plain : d.params.defaults = []) (room : Room k callerA) (kin : ∀ (w : World) (h : Heap), YP w h → (K w.params).In h)
    (F : ∀ (w : World) (mg : Str → Option Value) (f : Addr) (h : Heap), (K w.params).In h → h.Ns mainGlobals mg → mg d.name = some (.ref f) →
      ∃ fd : FuncData, (∀ (s : Shared) (u : Value), BindsTo s fd ⟨[u], []⟩ [(x, u)]) ∧ ∀ base : Heap, (K w.params).In base → base.Ns mainGlobals mg → FnG l.prog w (K w.params) mg base CX0 k f fd [x] (sp (K w.params)))
    (hq : ∀ (K : PySem.W.Frag) (H : Hp) (a : Addr) (zs : List Int), zs.length ≤ n → SqL K H a (zs.map V.int) → sp K [.ref a] H (fun v _ => v = .bl true) fun _ _ _ => False) :
    PySem.W.WalkO q loose XP YP l.row.toRowW d [] (fun f vs => PySem.call f vs) := by
  refine Att.attach_call most plain ?_
  intro w s₀ s₁ mg mb f o pm cd doc a us zs G Y _ _ _ hf ha whole len gens
  obtain ⟨fd, b, hF⟩ := F w mg f _ (kin w _ Y) G.T.g hf
  exact call_law (kin w _ Y) G.T.g G.T.b G.T.builtins G.T.nolimit gens ha whole (Nat.le_trans len small) room hF b fun H _ hS => hq _ H a zs len hS
end GL

set_option Elab.async false
set_option linter.all false
set_option maxRecDepth 100000
set_option maxHeartbeats 2000000
/-! sorted(..) of a tuple of texts; statements that are never reached. -/
namespace GL
open PySem PySem.Spec PyProof.Rows L2
section
variable {prog : Program} {w : World} {A : Around} {E : Value → Shared → Prop} {s : Shared}
theorem sorted_tup {l : Addr} {o : Obj} {vs : List Value} {zs : List Str} {n : Nat} {Q : Value → Shared → Prop} (at_ : s.heap.get? l = some o) (isT : o.cls = .type "tuple") (dat : o.data = .seq vs.toArray n)
    (txts : StrsAre vs zs) (few : vs.length < 64)
    (fin : ∀ (h1 h2 : Heap) (out : List Value) (ys : List Str) (ep : Nat), (∀ b ob, s.heap.get? b = some ob → h1.get? b = some ob) → (∀ b ob, h1.get? b = some ob → h2.get? b = some ob) →
      h2.get? h1.objs.size = some (seqObj "list" out.toArray ep) → StrsAre out ys → ys.Perm zs → sortedS ys = true → Q (.ref h1.objs.size) { s with heap := h2 }) :
    wpAny (model prog w) A (call (.builtin "sorted") [.ref l]) Q E s := by
  have small : vs.length ≤ sizeLine := Nat.le_trans (Nat.le_of_lt few) (by decide)
  refine Calls.call_function_entry kind_sorted plain_sorted entry_sorted (args_sorted1 _) ?_
  unfold Builtin.«sorted»
  refine wpAny_bind (m := checkCount "sorted" 1 1 _) (wpAny_pure (wpAny_bind (wpAny_collect_seq l (.inr rfl) at_ isT dat (fun h1 kp => ?_) (by simpa using small))))
  have ev : vs.toArray.toList = vs := by simp
  rw [ev]
  refine wpAny_bind (wpAny_newList ?_ small)
  have new : (h1.push (seqObj "list" vs.toArray 0)).get? h1.objs.size = some (seqObj "list" vs.toArray 0) := Heap.get?_push_size _ rfl
  refine wpAny_bind (wpAny_holding (wpAny_call_entry slot_list_sort ⟨_, new, rfl⟩ entry_list_sort (list_sort_treeK (s := { s with heap := h1.push (seqObj "list" vs.toArray 0) }) strKind_oneLt new txts.keysOf (fun a b rest e => keyKind_strs (by rw [← e]; exact txts)) few fun st hp hs => ⟨_, rfl, ?_⟩) (args_list_sort _)))
  obtain ⟨ys, g1, g2, g3⟩ := sorted_out_str txts hp hs
  obtain ⟨ep, at2⟩ := sortedHeap_at (vs := vs) (out := (arrOf st).map (·.2)) new
  refine wpAny_pure ⟨_, rfl, fin h1 _ ((arrOf st).map (·.2)).toList ys ep kp (fun b ob e => ?_) (by rw [Array.toArray_toList]; exact at2) g1 g2 g3⟩
  have lt := Heap.lt_size e
  show (sortedHeap (h1.push (seqObj "list" vs.toArray 0)) h1.objs.size vs _).get? b = some ob
  rw [sortedHeap_old (Nat.ne_of_lt lt) (Nat.lt_of_lt_of_le lt (by rw [size_push']; exact Nat.le_succ _))]
  exact Heap.get?_push_of_some _ e
end
section
variable {X : Cx}
/-- sorted(xs) of a list or a tuple of texts -/
def rSortLT (K : PySem.W.Frag) : List V → Hp → VK → Prop := fun vs H Q => ∃ (a : Addr) (xs : List Str), vs = [V.ref a] ∧ (SqL K H a (xs.map V.str) ∨ SqT K H a (xs.map V.str)) ∧ xs.length < 64 ∧
  ∀ ys : List Str, ys.Perm xs → sortedS ys = true → NewK H (.lst (ys.map V.str)) Q
theorem call_sortLT : CallR X (.builtin "sorted") (rSortLT X.K) := by
  intro pins s σ H xs us Q I r h
  obtain ⟨a, zs, rfl, o, few, q⟩ := h
  rcases o with o | o
  · exact call_sortL pins s σ H _ us Q I r ⟨a, zs, rfl, o, few, q⟩
  · obtain ⟨its, rv, ⟨ob, e1, e2, n, e3⟩, _⟩ := I.tuple o
    rw [Vals.ref1 r]
    have len := rv.length
    rw [List.length_map] at len
    refine sorted_tup e1 e2 e3 rv.strs (by rw [← len]; exact few) fun h1 h2 out ys ep kp kp2 at2 g1 g2 g3 => ?_
    have hlen : (ys.map V.str).length ≤ sizeLine := by rw [List.length_map, g2.length_eq]; exact Nat.le_trans (Nat.le_of_lt few) (by decide)
    have I1 : Inv X pins σ H { s with heap := h1 } := I.kept (t' := s.toks) kp
    exact ⟨.ref h1.objs.size, upd H h1.objs.size (.lst (ys.map V.str)), I1.laid (t' := s.toks) kp2 (Nat.le_refl _) ⟨hlen, out, ep, vals_of_strs g1, at2⟩, rfl, (q ys g2 g3).go _ (I1.hok.fresh (Nat.le_refl _))⟩
end
end GL

set_option Elab.async false
set_option linter.all false
set_option maxRecDepth 100000
set_option maxHeartbeats 4000000
namespace KM
open PySem PySem.Spec PyProof.Rows L2 GL
/-! the plain kinds of values, as far as right ones go -/
abbrev sInt : Stmt := top 12
abbrev sCnt : Stmt := top 13
abbrev sNm : Stmt := top 14
abbrev sGd : Stmt := top 15
abbrev sLs : Stmt := top 16
abbrev sTr : Stmt := top 18
def abc : Str := "abcdefghijklmnopqrstuvwxyz"
def kept : List Str := ["coin", "hall", "outside"]
/-- the file's constants -/
structure Wd (K : PySem.W.Frag) (mg : Str → Option Value) : Prop where
  letters : ∃ t, mg "LETTERS" = some (.str abc t)
  most : ∃ t, mg "MOST_LETTERS" = some (.int 8 t)
  no : ∃ a, mg "NO_GOODS" = some (.ref a) ∧ SqT K (fun _ => none) a (kept.map V.str)
def spInt : Sp := fun vs H Q _ => ∃ i : Int, vs = [.int i] ∧ ∀ H', Same H H' → Q (.bl true) H'
def spCnt : Sp := fun vs H Q _ => ∃ i : Int, vs = [.int i] ∧ 0 ≤ i ∧ ∀ H', Same H H' → Q (.bl true) H'
def spNm : Sp := fun vs H Q _ => ∃ x : Str, vs = [.str x] ∧ x ∈ names ∧ ∀ H', Same H H' → Q (.bl true) H'
def spLs (K : PySem.W.Frag) : Sp := fun vs H Q _ => ∃ a xs, vs = [.ref a] ∧ (SqL K H a xs ∨ SqT K H a xs) ∧ ∀ H', Same H H' → Q (.bl true) H'
def spTr : Sp := fun vs H Q _ => ∃ a x y z, vs = [.ref a] ∧ H a = some (.tup [x, y, z]) ∧ ∀ H', Same H H' → Q (.bl true) H'
theorem sqt_at {K : PySem.W.Frag} {T : Addr} {xs : List V} (h : SqT K (fun _ => none) T xs) (H : Hp) : SqT K H T xs := by
  rcases h with (h | ⟨o, h⟩) | h
  · cases h
  · cases h
  · exact .inr h
/-- whether it is a list, a tuple: the type, for isinstance -/
theorem ty_seq {K : PySem.W.Frag} {H : Hp} {a : Addr} {xs : List V} (h : SqL K H a xs ∨ SqT K H a xs) : TyX K H (.ref a) (.type "list") ∨ TyX K H (.ref a) (.type "tuple") := by
  rcases h with ((h | ⟨o, h⟩) | ⟨o, its, n, e, c, _⟩) | ((h | ⟨o, h⟩) | ⟨o, its, n, e, c, _⟩)
  · exact .inl (.base (.lst h))
  · exact .inl (.base (.frz h))
  · exact .inl (.kList e c)
  · exact .inr (.base (.tup h))
  · exact .inr (.fTuple h)
  · exact .inr (.kTuple e c)
section
variable {P : Program} {w : World} {K : PySem.W.Frag} {mg : Str → Option Value} {base : Heap}
abbrev nNm : List Str := ["value", "sign"]
theorem scInt : FnScope ["value"] ["value"] (defScope sInt) := ⟨rfl, rfl, rfl, by decide +kernel, rfl, by decide +kernel, by decide +kernel⟩
theorem scCnt : FnScope ["value"] ["value"] (defScope sCnt) := ⟨rfl, rfl, rfl, by decide +kernel, rfl, by decide +kernel, by decide +kernel⟩
theorem scNm : FnScope nNm ["value"] (defScope sNm) := ⟨rfl, rfl, rfl, by decide +kernel, rfl, by decide +kernel, by decide +kernel⟩
theorem scGd : FnScope ["value"] ["value"] (defScope sGd) := ⟨rfl, rfl, rfl, by decide +kernel, rfl, by decide +kernel, by decide +kernel⟩
theorem scLs : FnScope ["value"] ["value"] (defScope sLs) := ⟨rfl, rfl, rfl, by decide +kernel, rfl, by decide +kernel, by decide +kernel⟩
theorem scTr : FnScope ["value"] ["value"] (defScope sTr) := ⟨rfl, rfl, rfl, by decide +kernel, rfl, by decide +kernel, by decide +kernel⟩
theorem ok_int {f : Addr} {fd : FuncData} (F : Fun K "is_integer" "is_integer" sInt f fd) (T : Bi mg) : FnG P w K mg base CX0 1 f fd ["value"] spInt := by
  refine okG F scInt (fun vs H Q E h => ?_) (fun cdv A out s H vs Q E g hr h => ?_)
  · obtain ⟨i, rfl, _⟩ := h
    rfl
  · obtain ⟨i, rfl, q⟩ := h
    refine ⟨_, (pss_one (ps_ret (pe_and (pe_callB call_isi (by rfl) T.isinstance (by decide +kernel) (pa_cons (pv 0) (pa_cons (pe_bltn (v := .ty "int") (u := .type "int") (by rfl) T.int (by decide +kernel) rfl) pa_nil))) (pe_one (pe_not (pe_callB call_isi (by rfl) T.isinstance (by decide +kernel) (pa_cons (pv 0) (pa_cons (pe_bltn (v := .ty "bool") (u := .type "bool") (by rfl) T.bool (by decide +kernel) rfl) pa_nil)))))))), ?_⟩
    refine ⟨_, rfl, .int i, .ty "int", .type "int", .type "int", true, rfl, .ty "int", .base (.int i), kit_ty (by decide +kernel), true, rfl, ?_⟩
    exact ⟨_, rfl, .int i, .ty "bool", .type "int", .type "bool", false, rfl, .ty "bool", .base (.int i), kit_ty (by decide +kernel), false, rfl, q _ (Same.refl' _)⟩
theorem ok_cnt {f : Addr} {fd : FuncData} (F : Fun K "is_count" "is_count" sCnt f fd) (I : Has P w K mg base "is_integer" 1 ["value"] spInt) : FnG P w K mg base CX0 2 f fd ["value"] spCnt := by
  refine okG F scCnt (fun vs H Q E h => ?_) (fun cdv A out s H vs Q E g hr h => ?_)
  · obtain ⟨i, rfl, _⟩ := h
    rfl
  · obtain ⟨i, rfl, hi, q⟩ := h
    refine ⟨_, (pss_one (ps_ret (pe_and (pe_has I g hr (by rfl) (pa_cons (pv 0) pa_nil)) (pe_one (pe_cmpR op_ge (pv 0) pe_int (nomark _)))))), ?_⟩
    refine ⟨_, rfl, rfl, rfl, i, rfl, fun H' s' => ⟨true, rfl, _, rfl, _, _, rfl, rfl, ?_⟩⟩
    show Q (V.bl (decide ((0 : Int) ≤ i))) H'
    rw [decide_eq_true hi]
    exact q H' s'
theorem ok_name {f : Addr} {fd : FuncData} (F : Fun K "is_name" "is_name" sNm f fd) (T : Bi mg) (W : Wd K mg) : FnG P w K mg base CX0 1 f fd ["value"] spNm := by
  obtain ⟨tL, hL⟩ := W.letters
  obtain ⟨t8, h8⟩ := W.most
  refine okG F scNm (fun vs H Q E h => ?_) (fun cdv A out s H vs Q E g hr h => ?_)
  · obtain ⟨x, rfl, _⟩ := h
    rfl
  · obtain ⟨x, rfl, hx, q⟩ := h
    have fact : ∀ x ∈ names, 1 ≤ x.length ∧ x.length ≤ 8 ∧ ∀ c ∈ x.cps.toList, c ∈ abc.cps.toList := by decide +kernel
    obtain ⟨l1, l8, low⟩ := fact x hx
    have sz := sizeLine_eq
    refine ⟨_, (pss_cons (ps_if (PW.pt (pw_or (pt_not (pt_val (pe_callB call_isi (by rfl) T.isinstance (by decide +kernel) (pa_cons (pv 0) (pa_cons (pe_bltn (v := .ty "str") (u := .type "str") (by rfl) T.str (by decide +kernel) rfl) pa_nil))))) (pw_or1 (pt_not (pt_chain op_le op_le pe_int (pe_callB call_len_str (by rfl) T.len PySem.boot_len (pa_cons (pv 0) pa_nil)) (pe_glob (v := .int 8) (by rfl) h8 ⟨_, rfl⟩)))))) (pss_one (ps_ret pe_bl)) pss_nil)
      (pss_one (ps_ret (pe_callB (cr_all (by rfl)) (by rfl) T.all (by decide +kernel) (pa_cons (pe_lc (own := [("sign", 1)]) (g := gName 1) (by rfl) scNm.nd (pi_str (pv 0)) (blkOk_by (own := [("sign", 1)]) (N := nNm) (sc := defScope sNm) (by decide +kernel)) (fun _ _ _ _ _ => pg_name (i := 1) scNm.nd rfl (.inl rfl)) (fun _ _ _ _ _ => pts_nil) (fun _ _ _ _ _ => by exact (pe_cmpR op_in_sign (pv 1) (pe_glob (v := .str abc) (by rfl) hL ⟨_, rfl⟩) rfl))) pa_nil))))), ?_⟩
    refine ⟨_, rfl, .str x, .ty "str", .type "str", .type "str", true, rfl, .ty "str", .base (.str x), kit_ty (by decide +kernel), _, rfl, ?_⟩
    refine iteF ?_
    refine ⟨_, rfl, x, rfl, by omega, _, _, rfl, rfl, true, congrArg V.bl (decide_eq_true (by omega)), ?_⟩
    refine ⟨_, _, rfl, rfl, true, congrArg V.bl (decide_eq_true (by omega)), ?_⟩
    refine iteF ?_
    refine ⟨_, rfl, x, rfl, fun D5 nD5 => lc_it walk_str (fun i H' => Same H H' ∧ H' D5 = some (.lst ((List.replicate i true).map V.bl))) ⟨same_new (Same.refl' _) nD5, upd_same⟩ (fun _ _ _ _ => True.intro) ?_ ?_⟩
    · rintro i xv H' H2 hi ⟨sd, eD5⟩ ⟨rfl, c, hc, rfl⟩
      refine ⟨rfl, yes_go ?_⟩
      have mem : c ∈ x.cps.toList := by
        rw [Array.mem_toList_iff]
        exact Array.mem_of_getElem? hc
      refine ⟨_, rfl, c, abc, rfl, rfl, ?_⟩
      have hsz : x.cps.size = x.length := rfl
      refine ⟨_, eD5, by rw [List.length_map, List.length_replicate]; exact small1000 (by omega), ?_, ?_⟩
      · intro b o e
        rw [upd_ne (ne_of_none e nD5)]
        exact sd _ _ e
      · rw [upd_same, List.replicate_succ', List.map_append, decide_eq_true (low c mem)]
        rfl
    · rintro H25 ⟨S25, eD5⟩
      refine ⟨D5, List.replicate x.cps.size true, rfl, SqL.of eD5, ?_⟩
      have z : (List.replicate x.cps.size true).all id = true := by simp
      show Q (V.bl ((List.replicate x.cps.size true).all id)) H25
      rw [z]
      exact q H25 S25
theorem ok_good {f : Addr} {fd : FuncData} (F : Fun K "is_good" "is_good" sGd f fd) (W : Wd K mg) (I : Has P w K mg base "is_name" 1 ["value"] spNm) : FnG P w K mg base CX0 2 f fd ["value"] spNm := by
  obtain ⟨tN, hN, sN⟩ := W.no
  refine okG F scGd (fun vs H Q E h => ?_) (fun cdv A out s H vs Q E g hr h => ?_)
  · obtain ⟨x, rfl, _⟩ := h
    rfl
  · obtain ⟨x, rfl, hx, q⟩ := h
    have fact : ∀ x ∈ names, (!inV (.str x) (kept.map V.str)) = true := by decide +kernel
    refine ⟨_, (pss_one (ps_ret (pe_and (pe_has I g hr (by rfl) (pa_cons (pv 0) pa_nil)) (pe_one (pe_cmpR op_notIn_seq (pv 0) (pe_glob (v := .ref tN) (by rfl) hN rfl) rfl))))), ?_⟩
    refine ⟨_, rfl, rfl, rfl, x, rfl, hx, fun H' s' => ⟨true, rfl, ?_⟩⟩
    refine ⟨_, rfl, tN, _, rfl, .inr (sqt_at sN _), rfl, by decide +kernel, ?_⟩
    show Q (V.bl (!inV (.str x) (kept.map V.str))) H'
    rw [fact x hx]
    exact q H' s'
theorem ok_list {f : Addr} {fd : FuncData} (F : Fun K "is_list" "is_list" sLs f fd) (T : Bi mg) : FnG P w K mg base CX0 1 f fd ["value"] (spLs K) := by
  refine okG F scLs (fun vs H Q E h => ?_) (fun cdv A out s H vs Q E g hr h => ?_)
  · obtain ⟨a, xs, rfl, _⟩ := h
    rfl
  · obtain ⟨a, xs, rfl, hq, q⟩ := h
    refine ⟨_, (pss_one (ps_ret (pe_callB call_isiT (by rfl) T.isinstance (by decide +kernel) (pa_cons (pv 0) (pa_cons (pe_tupL (pa_cons (pe_bltn (v := .ty "list") (u := .type "list") (by rfl) T.list (by decide +kernel) rfl) (pa_cons (pe_bltn (v := .ty "tuple") (u := .type "tuple") (by rfl) T.tuple (by decide +kernel) rfl) pa_nil))) pa_nil))))), ?_⟩
    refine ⟨_, rfl, by show 2 ≤ sizeLine; decide, fun tp H1 n1 e1 s1 => ?_⟩
    have hq1 : SqL K H1 a xs ∨ SqT K H1 a xs := hq.imp s1.seq (same_tup s1)
    rcases ty_seq hq1 with t | t
    · exact ⟨.ref a, tp, _, .type "list", [.type "list", .type "tuple"], true, rfl, e1, .cons (.ty "list") (.cons (.ty "tuple") .nil), t, kitAny_cons (b := true) (kit_ty (by decide +kernel)) (fun z => by cases z) (fun _ => rfl), q _ s1⟩
    · exact ⟨.ref a, tp, _, .type "tuple", [.type "list", .type "tuple"], true, rfl, e1, .cons (.ty "list") (.cons (.ty "tuple") .nil), t, kitAny_cons (b := false) (kit_ty (by decide +kernel)) (fun _ => kitAny_cons (b := true) (kit_ty (by decide +kernel)) (fun z => by cases z) (fun _ => rfl)) (fun z => by cases z), q _ s1⟩
theorem ok_triple {f : Addr} {fd : FuncData} (F : Fun K "is_triple" "is_triple" sTr f fd) (T : Bi mg) : FnG P w K mg base CX0 1 f fd ["value"] spTr := by
  refine okG F scTr (fun vs H Q E h => ?_) (fun cdv A out s H vs Q E g hr h => ?_)
  · obtain ⟨a, x, y, z, rfl, _⟩ := h
    rfl
  · obtain ⟨a, x, y, z, rfl, ha, q⟩ := h
    refine ⟨_, (pss_one (ps_ret (pe_and (pe_callB call_isi (by rfl) T.isinstance (by decide +kernel) (pa_cons (pv 0) (pa_cons (pe_bltn (v := .ty "tuple") (u := .type "tuple") (by rfl) T.tuple (by decide +kernel) rfl) pa_nil))) (pe_one (pe_cmpR op_eq (pe_callB call_len_seq (by rfl) T.len PySem.boot_len (pa_cons (pv 0) pa_nil)) pe_int (nomark _)))))), ?_⟩
    refine ⟨_, rfl, .ref a, .ty "tuple", .type "tuple", .type "tuple", true, rfl, .ty "tuple", .base (.tup ha), kit_ty (by decide +kernel), true, rfl, ?_⟩
    refine ⟨_, rfl, a, _, rfl, .inr (SqT.of ha), rfl, ?_⟩
    show Q (V.bl (decide (V.int 3 = V.int 3))) H
    rw [decide_eq_true rfl]
    exact q H (Same.refl' _)
end
end KM

set_option Elab.async false
set_option linter.all false
set_option maxRecDepth 100000
set_option maxHeartbeats 2000000
/-! enumerate(..) of a tuple, and of a list or a tuple. -/
namespace GL
open PySem PySem.Spec PyProof.Rows L2
set_option maxHeartbeats 4000000 in
theorem meets_enum_one {it : Value} {ob : Obj} {Hv : Heap → Prop} (B : Begins it ob Hv) :
    Meets (Builtin.«enumerate.__new__» ⟨[.type "enumerate", it], []⟩) (fun _ Rz z => Hv z.heap ∧ Rz (.ok (.ret (.ref (z.heap.push ob).objs.size)))
      { z with heap := (z.heap.push ob).push { cls := .type "enumerate", data := .fields #[.none, .bool false, .ref z.heap.objs.size, rawInt 0, .none, .none] } }) :=
  .of_wp fun prog w A Rz z hz => by
    obtain ⟨hp, gs, ds, tk, os⟩ := z
    obtain ⟨g1, gz⟩ := hz
    have hsub := sub_enumerate
    have step : ∀ {A2 : Around} {E2 : Value → Shared → Prop} {Q2 : Value → Shared → Prop}, Q2 (.ref hp.objs.size) ⟨hp.push ob, gs, ds, tk, os⟩ → wpAny (model prog w) A2 (pyIter it) Q2 E2 ⟨hp, gs, ds, tk, os⟩ :=
      fun y => B.iter prog w _ _ ⟨hp, gs, ds, tk, os⟩ _ g1 y
    wp_walk using step
    refine wpAny_stack_any fun _ => wpAny_pure ?_
    split
    · rename_i cz _ _ _ _ _
      cases (cz == Value.type "enumerate") <;> (wp_walk using step; exact ⟨_, rfl, gz⟩)
    · wp_walk using step
      exact ⟨_, rfl, gz⟩
section
variable {prog : Program} {w : World} {A : Around} {E : Value → Shared → Prop} {s : Shared}
/-- enumerate(it): its two new cells -/
theorem call_enum_one {it : Value} {ob : Obj} {Hv : Heap → Prop} {Q : Value → Shared → Prop} (B : Begins it ob Hv) (g1 : Hv s.heap)
    (fin : ∀ h2, IsEnum h2 (s.heap.objs.size + 1) s.heap.objs.size 0 .none → h2.get? s.heap.objs.size = some ob → (∀ b u, s.heap.get? b = some u → h2.get? b = some u) → Q (.ref (s.heap.objs.size + 1)) { s with heap := h2 }) :
    wpAny (model prog w) A (call (.type "enumerate") [it]) Q E s := by
  refine callType_new F.called_enumerate (by decide) (F.typeCall_enumerate_1 _) (F.newCall_enumerate_1 _) (fun z => F.args_object_init_2 z _) F.entry_enumerate_new (meets_enum_one B) ⟨g1, ?_⟩
  have sz1 : (s.heap.push ob).objs.size = s.heap.objs.size + 1 := Heap.size_push ..
  show _ ∧ _
  rw [sz1]
  let ez : Obj := { cls := .type "enumerate", data := .fields #[.none, .bool false, .ref s.heap.objs.size, rawInt 0, .none, .none] }
  have en : IsEnum ((s.heap.push ob).push ez) (s.heap.objs.size + 1) s.heap.objs.size 0 .none := by
    have z := Heap.get?_push_size (s.heap.push ob) (o := ez) rfl
    rw [sz1] at z
    exact z
  exact ⟨⟨_, en, rfl⟩, fin _ en (Heap.get?_push_of_some _ (Heap.get?_push_size _ B.free)) fun b u y => Heap.get?_push_of_some _ (Heap.get?_push_of_some _ y)⟩
end
/-- the tuple at a, each item in a new pair -/
def ItT (K : PySem.W.Frag) (a : Addr) : It where
  go := fun i H => ∃ (xs : List V) (x : V), SqT K H a xs ∧ xs[i]? = some x
  yld := fun i H v H' => ∃ T x, v = .ref T ∧ H T = none ∧ H' = upd H T (.tup [.int (i : Nat), x]) ∧ ∀ xs, SqT K H a xs → xs[i]? = some x
  stop := fun i H => ∃ xs : List V, SqT K H a xs ∧ xs.length ≤ i
theorem turn_enumT {P : Program} {w : World} {K : PySem.W.Frag} {elts : List Expr} {kk : Nat} {tpos : Pos} (a e it : Addr) :
    Turn P w K (.Tuple elts kk tpos) (ItT K a) [e, it] e (fun i h => (∃ old, IsEnum h e it ((i : Nat) : Int) old) ∧ h.IsTupleIter it a i ∧ e ≠ it) where
  mem := List.mem_cons_self
  obj := by
    rintro i h ⟨⟨old, en⟩, ⟨o, ho, hc, hd⟩, _⟩ b hb
    rcases List.mem_cons.mp hb with z | z
    · subst z
      exact ⟨_, en, fun v q => nomatch q⟩
    · exact ⟨o, (List.mem_singleton.mp z) ▸ ho, fun v q => by rw [hd] at q; cases q⟩
  keep := fun i h h' ⟨⟨old, en⟩, tt, ne⟩ k => ⟨⟨old, k e (by simp) _ en⟩, tt.at fun o q => k it (by simp) o q, ne⟩
  item := by
    intro X hP hw hK hc i pins s σ H E I hf st hg
    subst hP hw hK
    obtain ⟨⟨old, en⟩, tt, ne⟩ := st
    obtain ⟨xs, x, hq, hx⟩ := hg
    obtain ⟨its, rv, p, _⟩ := I.tuple hq
    obtain ⟨u, hu, ru⟩ := rv.get hx
    have le := Heap.lt_size en
    obtain ⟨oi, e1, e2, _⟩ := id tt
    obtain ⟨op, f1, f2, n, f3⟩ := id p
    have li := Heap.lt_size e1
    have ai : a ≠ it := fun z => by
      rw [z, e1] at f1
      cases f1
      rw [e2] at f2
      exact absurd f2 (by decide)
    have ea : e ∉ [it, a] := fun z => by
      rcases List.mem_cons.mp z with z | z
      · exact ne z
      · have z := List.mem_singleton.mp z
        have q : s.heap.get? a = _ := z ▸ en
        rw [q] at f1
        cases f1
        exact absurd (show Value.type "enumerate" = Value.type "tuple" from f2) (by decide)
    have D := Draws.tuple (prog := X.prog) (w := X.w) (A := X.A.in1) (I.ok.hd hc) it a ai its.toArray
    have hi : i < its.toArray.size := by
      have := (List.getElem?_eq_some_iff.mp hu).1
      simpa using this
    refine wpAny_pyNext_enum_itemD D en ⟨tt, op, f1, f2, n, f3⟩ hi ne ea fun y h' tk hy ho hs hT hsz hk => ?_
    have hy' : u = y := by
      have z : its[i]? = some y := by simpa using hy
      rw [hu] at z
      exact Option.some.inj z
    subst hy'
    refine ⟨_, rfl, wpAny_letOwnedTupleGo_enum (s := { s with heap := h', toks := tk + 1 }) ho fun h'' he' sb => ?_⟩
    have hT2 : h''.get? s.heap.objs.size = some { cls := .type "tuple", data := .seq #[.int i tk, u] } := (sb.2 _ (Nat.ne_of_gt le)).trans hT
    have new : ObjOk X.prog X.w (upd H s.heap.objs.size (.tup [.int (i : Nat), x])) h'' s.heap.objs.size (.tup [.int (i : Nat), x]) :=
      ⟨by show 2 ≤ sizeLine; decide, [.int i tk, u], .cons ⟨_, rfl⟩ (.cons ru .nil), ⟨_, hT2, rfl, _, rfl⟩⟩
    have I1 : Inv X pins σ (upd H s.heap.objs.size (.tup [.int (i : Nat), x])) { s with heap := h'', toks := tk + 1 } :=
      I.turnedNew (ch := [e, it]) (fun b ob hb q => (sb.2 b fun z => hb (by simp [z])).trans (hk b ob (fun z => hb (by simp [z])) (fun z => hb (by simp [z])) q)) hf (Nat.le_refl _) new
    refine ⟨.ref s.heap.objs.size, _, I1, rfl, ⟨_, x, rfl, I.hok.fresh (Nat.le_refl _), rfl, fun ys hz => by rw [I.tuple_inj hz hq]; exact hx⟩, ⟨⟨u, ?_⟩, hs.1.at fun o q => (sb.2 it ne.symm).trans q, ne⟩, fun b hb => ?_⟩
    · have k1 : ((i + 1 : Nat) : Int) = (i : Int) + 1 := by omega
      rw [k1]
      exact he'
    · have lt : b < s.heap.objs.size := by
        rcases List.mem_cons.mp hb with z | z
        · exact z ▸ le
        · exact (List.mem_singleton.mp z) ▸ li
      rw [upd_ne (Nat.ne_of_lt lt)]
      exact (hf b hb).1
  done := by
    intro X hP hw hK hc i pins s σ H E I hf st hg
    subst hP hw hK
    obtain ⟨⟨old, en⟩, tt, ne⟩ := st
    obtain ⟨xs, hq, hx⟩ := hg
    obtain ⟨its, rv, p, _⟩ := I.tuple hq
    obtain ⟨oi, e1, e2, _⟩ := id tt
    obtain ⟨op, f1, f2, n, f3⟩ := id p
    have ai : a ≠ it := fun z => by
      rw [z, e1] at f1
      cases f1
      rw [e2] at f2
      exact absurd f2 (by decide)
    obtain ⟨f0, f1', f2', f3', f4, f5⟩ := hf it (by simp)
    have hT : s.TypeIs (.ref e) "enumerate" := ⟨_, en, rfl⟩
    unfold pyNext
    refine wpAny_bind (wpAny_attempt (wpAny_callSpecial?_slot (name := Str.ofString "__next__") hT F.slot_enumerate_next (wpAny_call_entry F.slot_enumerate_next hT F.entry_enumerate_next ?_ (F.args_enumerate_next_1 _))))
    show wpAny _ _ (field (.ref e) 2 >>= _) _ _ _
    refine wpAny_bind (wpAny_field en rfl (x := .ref it) rfl (wpAny_bind (wpAny_nextOf_tuple_end (I.ok.hd hc) tt p (Array.getElem?_eq_none (by have := rv.length; simp; omega)) fun h' x eb hx' => ?_)))
    obtain ⟨ox, hox, hcx⟩ := hx'
    exact wpAny_bind (wpAny_isInstance (T := "StopIteration") (b := true) ⟨ox, hox, hcx⟩ isSubtype_stop (wpAny_pure ⟨rfl, I.turned (t' := s.toks) (fun b o hb q => eb b o hb q) f0 f1' f3' f4 f5⟩))
  self := fun A i s Q E ⟨⟨_, en⟩, _⟩ h => wpAny_pyIter_enum en h
/-- enumerate(xs) of a list or a tuple -/
def iEnumA (K : PySem.W.Frag) (ta : TA) : TI := fun σ H R => ta σ H fun vs H1 => ∃ a xs, vs = [.ref a] ∧ ((SqL K H1 a xs ∧ R (Ite K a) H1) ∨ (SqT K H1 a xs ∧ R (ItT K a) H1))
theorem pi_enumA {X : Cx} {e : Expr} {ta : TA} {p pos tpos : Pos} {elts : List Expr} {kk : Nat} (hg : Gl X "enumerate") (hm : X.mg "enumerate" = none) (ha : PA X [e] ta)
    (hs : starEach [e] X.env = [(false, eval e X.env)] := by rfl) : PI X (.Tuple elts kk tpos) (.Call (.Name "enumerate" p) [e] [] pos) (iEnumA X.K ta) := by
  constructor
  intro pins s σ H R I h
  refine Call_ (ld_blt I hg hm boot_enumerate (PyProof.Rows.callWith_type1 (thn (ha.run pos pins s σ H _ I h) ?_) hs rfl))
  rintro us s1 ⟨vs, H1, I1, r1, a, xs, rfl, hq⟩
  obtain rfl := Vals.ref1 r1
  have lay : ∀ b : Addr, b = s1.heap.objs.size + 1 ∨ b = s1.heap.objs.size → FpOk X pins H1 b := fun b z => by
    have le : s1.heap.objs.size ≤ b := by rcases z with z | z <;> rw [z] <;> first | exact Nat.le_refl _ | exact Nat.le_succ _
    exact I1.fpOk le (I1.hok.fresh le)
  rcases hq with ⟨hq, q⟩ | ⟨hq, q⟩
  · obtain ⟨its, rv, pl, _⟩ := I1.list hq
    refine call_enumerate_list pl.isList fun h2 en tt sz2 kp => wpAny_pyIter_enum en ?_
    refine ⟨s1.heap.objs.size + 1, [s1.heap.objs.size + 1, s1.heap.objs.size], _, _, H1, rfl, I1.kept (t' := s1.toks) kp, turn_enum a (s1.heap.objs.size + 1) s1.heap.objs.size, ⟨⟨.none, en⟩, tt, Nat.succ_ne_self _⟩, fun b hb => ?_, q⟩
    exact lay b (by simpa using hb)
  · obtain ⟨its, rv, pl, _⟩ := I1.tuple hq
    refine call_enum_one (begins_tuple a its.toArray) pl fun h2 en tt kp => wpAny_pyIter_enum en ?_
    refine ⟨s1.heap.objs.size + 1, [s1.heap.objs.size + 1, s1.heap.objs.size], _, _, H1, rfl, I1.kept (t' := s1.toks) kp, turn_enumT a (s1.heap.objs.size + 1) s1.heap.objs.size, ⟨⟨.none, en⟩, ⟨_, tt, rfl, rfl⟩, Nat.succ_ne_self _⟩, fun b hb => ?_, q⟩
    exact lay b (by simpa using hb)
end GL

set_option Elab.async false
set_option linter.all false
set_option maxRecDepth 100000
set_option maxHeartbeats 4000000
namespace KM
open PySem PySem.Spec PyProof.Rows L2 GL
/-! conditions, and the checks, as far as right values go -/
abbrev sAmo : Stmt := top 17
abbrev sEn : Stmt := top 22
abbrev sCo : Stmt := top 23
abbrev sCg : Stmt := top 24
abbrev sCc : Stmt := top 25
def Sq (K : PySem.W.Frag) (H : Hp) (a : Addr) (xs : List V) : Prop := SqL K H a xs ∨ SqT K H a xs
theorem Sq.same {K : PySem.W.Frag} {H H' : Hp} {a : Addr} {xs : List V} (h : Sq K H a xs) (s : Same H H') : Sq K H' a xs := h.imp s.seq (same_tup s)
def spEn (K : PySem.W.Frag) : Sp := fun vs H Q _ => ∃ (a : Option Str) (G : Addr) (gs : List Str), vs = [.ref G, oV a] ∧ Sq K H G (gs.map V.str) ∧ (∀ x, a = some x → x ∈ gs) ∧ ∀ H', Same H H' → Q (.bl true) H'
/-- is_among of a text: whether it is one of them -/
def spAmo (K : PySem.W.Frag) : Sp := fun vs H Q _ => ∃ (x : Str) (G : Addr) (gs : List Str), vs = [.ref G, .str x] ∧ Sq K H G (gs.map V.str) ∧ ∀ H', Same H H' → Q (.bl (inV (.str x) (gs.map V.str))) H'
def spCo (K : PySem.W.Frag) : Sp := fun vs H Q _ => ∃ (t G : Addr) (gs : List Str) (r : Row), vs = [.ref G, .ref t] ∧ RowAt H t r ∧ Sq K H G (gs.map V.str) ∧ GoodGs gs ∧ GoodRow gs r ∧ ∀ H', Same H H' → Q (.bl true) H'
def spCg (K : PySem.W.Frag) : Sp := fun vs H Q _ => ∃ (G : Addr) (gs : List Str), vs = [.ref G] ∧ Sq K H G (gs.map V.str) ∧ GoodGs gs ∧ ∀ H', Same H H' → Q .non H'
def spCc (K : PySem.W.Frag) : Sp := fun vs H Q _ => ∃ (G R : Addr) (gs : List Str) (rs : List Row) (as : List Addr), vs = [.ref G, .ref R] ∧ Sq K H G (gs.map V.str) ∧ Sq K H R (as.map V.ref) ∧ RowsIn H as rs ∧ GoodGs gs ∧ GoodRows gs rs ∧ ∀ H', Same H H' → Q .non H'
theorem in_strs {x : Str} {gs : List Str} (h : x ∈ gs) : inV (.str x) (gs.map V.str) = true :=
  List.any_eq_true.mpr ⟨.str x, List.mem_map.mpr ⟨x, h, rfl⟩, by show (x == x) = true; simp⟩
theorem flat_strs (gs : List Str) : (gs.map V.str).all flatV = true := by
  rw [List.all_eq_true]
  intro v hv
  obtain ⟨x, _, rfl⟩ := List.mem_map.mp hv
  rfl
/-- a turn of enumerate: a new pair -/
def YEn (xs : List V) : Nat → Hp → V → Hp → Prop := fun i H v H' => ∃ T x, v = .ref T ∧ H T = none ∧ H' = upd H T (.tup [.int (i : Nat), x]) ∧ xs[i]? = some x
theorem walk_eL {K : PySem.W.Frag} {a : Addr} {xs : List V} : Walk (Ite K a) xs.length (fun H => SqL K H a xs) (YEn xs) :=
  ⟨fun i _ hi h => ⟨xs, xs[i], h, by simp [hi]⟩, fun _ h => ⟨xs, h, Nat.le_refl _⟩, fun i H x H' _ h y => by
    obtain ⟨T, z, e, n, u, w⟩ := y
    exact ⟨T, z, e, n, u, w _ h⟩⟩
theorem walk_eT {K : PySem.W.Frag} {a : Addr} {xs : List V} : Walk (ItT K a) xs.length (fun H => SqT K H a xs) (YEn xs) :=
  ⟨fun i _ hi h => ⟨xs, xs[i], h, by simp [hi]⟩, fun _ h => ⟨xs, h, Nat.le_refl _⟩, fun i H x H' _ h y => by
    obtain ⟨T, z, e, n, u, w⟩ := y
    exact ⟨T, z, e, n, u, w _ h⟩⟩
/-- what a for asks of its walk -/
abbrev ForW (J : It) (g : TG) (tb : TS) (D : L2.Ends) (σ : L2.St) (H : Hp) : Prop :=
  ∃ W : Nat → Nat → L2.St → Hp → Prop, (∃ m, W 0 m σ H) ∧ ∀ i m σ H, W i m σ H → (J.stop i H ∧ D.nx σ H) ∨
    (J.go i H ∧ ∃ N : L2.St → Hp → Prop, (∀ σ' H', N σ' H' → ∃ m', m' < m ∧ W (i + 1) m' σ' H') ∧ ∀ x H', J.yld i H x H' → g x σ H' fun σ2 H2 => tb { D with nx := N, ct := N, bk := D.nx } σ2 H2)
theorem for_enum {K : PySem.W.Frag} {a : Addr} {xs : List V} {g : TG} {tb : TS} {D : L2.Ends} {σ : L2.St} {H0 H : Hp} (hq : Sq K H0 a xs) (s0 : Same H0 H) (Pv : Nat → L2.St → Hp → Prop) (h0 : Pv 0 σ H)
    (hS : ∀ i σ' H', Pv i σ' H' → Same H0 H') (hs : ∀ i x σ' H1 H', i < xs.length → Pv i σ' H1 → YEn xs i H1 x H' → g x σ' H' fun σ2 H2 => tb { D with nx := Pv (i + 1), ct := Pv (i + 1), bk := D.nx } σ2 H2)
    (hd : ∀ σ' H', Pv xs.length σ' H' → D.nx σ' H') : (SqL K H a xs ∧ ForW (Ite K a) g tb D σ H) ∨ (SqT K H a xs ∧ ForW (ItT K a) g tb D σ H) := by
  rcases hq with q | q
  · exact .inl ⟨s0.seq q, for_it walk_eL Pv h0 (fun i σ' H' _ p => (hS i σ' H' p).seq q) hs hd⟩
  · exact .inr ⟨same_tup s0 q, for_it walk_eT Pv h0 (fun i σ' H' _ p => same_tup (hS i σ' H' p) q) hs hd⟩
/-- the dict of the goods ahead -/
def dKs (gs : List Str) : List (L2.Key × V) := gs.map fun x => (Sum.inr x, .bl true)
theorem dks_none {x : Str} : ∀ {gs : List Str}, x ∉ gs → valV (dKs gs) (Sum.inr x : L2.Key) = none
  | [], _ => rfl
  | a :: r, h => by
    have h1 : ¬ (Sum.inr a : L2.Key) = Sum.inr x := fun z => h (by cases z; exact List.mem_cons_self)
    show valV ((Sum.inr a, V.bl true) :: dKs r) _ = none
    rw [valV_neg h1]
    exact dks_none fun z => h (List.mem_cons_of_mem _ z)
theorem dks_put {x : Str} {gs : List Str} (h : x ∉ gs) : putK (dKs gs) (Sum.inr x : L2.Key) (.bl true) = dKs (gs ++ [x]) := by
  unfold putK
  rw [valV_any, dks_none h]
  show dKs gs ++ [(Sum.inr x, V.bl true)] = _
  unfold dKs
  rw [List.map_append]
  rfl
theorem nodup_at {gs : List Str} (h : gs.Nodup) {i : Nat} {x : Str} (e : gs[i]? = some x) : x ∉ gs.take i := by
  intro m
  obtain ⟨j, hj, ej⟩ := List.mem_iff_getElem.mp m
  rw [List.length_take] at hj
  rw [List.getElem_take] at ej
  obtain ⟨hi, ei⟩ := List.getElem?_eq_some_iff.mp e
  exact List.pairwise_iff_getElem.mp h j i (by omega) hi (by omega) (ej.trans ei.symm)
section
variable {P : Program} {w : World} {K : PySem.W.Frag} {mg : Str → Option Value} {base : Heap}
theorem scAmo : FnScope ["names", "value"] ["names", "value"] (defScope sAmo) := ⟨rfl, rfl, rfl, by decide +kernel, rfl, by decide +kernel, by decide +kernel⟩
theorem scEn : FnScope ["goods", "value"] ["goods", "value"] (defScope sEn) := ⟨rfl, rfl, rfl, by decide +kernel, rfl, by decide +kernel, by decide +kernel⟩
theorem scCo : FnScope ["goods", "value", "one", "other", "most"] ["goods", "value"] (defScope sCo) := ⟨rfl, rfl, rfl, by decide +kernel, rfl, by decide +kernel, by decide +kernel⟩
theorem scCg : FnScope ["goods", "ahead", "position", "good"] ["goods"] (defScope sCg) := ⟨rfl, rfl, rfl, by decide +kernel, rfl, by decide +kernel, by decide +kernel⟩
theorem scCc : FnScope ["goods", "conditions", "position", "condition"] ["goods", "conditions"] (defScope sCc) := ⟨rfl, rfl, rfl, by decide +kernel, rfl, by decide +kernel, by decide +kernel⟩
theorem ok_am {f : Addr} {fd : FuncData} (F : Fun K "is_among" "is_among" sAmo f fd) (T : Bi mg) : FnG P w K mg base CX0 1 f fd ["names", "value"] (spAmo K) := by
  refine okG F scAmo (fun vs H Q E h => ?_) (fun cdv A out s H vs Q E g hr h => ?_)
  · obtain ⟨x, G, gs, rfl, _⟩ := h
    rfl
  · obtain ⟨x, G, gs, rfl, hq, q⟩ := h
    refine ⟨_, (pss_one (ps_ret (pe_and (pe_callB call_isi (by rfl) T.isinstance (by decide +kernel) (pa_cons (pv 1) (pa_cons (pe_bltn (v := .ty "str") (u := .type "str") (by rfl) T.str (by decide +kernel) rfl) pa_nil))) (pe_one (pe_cmpR op_in_seq (pv 1) (pv 0) rfl))))), ?_⟩
    refine ⟨_, rfl, .str x, .ty "str", .type "str", .type "str", true, rfl, .ty "str", .base (.str x), kit_ty (by decide +kernel), true, rfl, ?_⟩
    refine ⟨_, rfl, _, rfl, G, _, rfl, hq, rfl, flat_strs gs, ?_⟩
    exact q H (Same.refl' _)
theorem ok_end {f : Addr} {fd : FuncData} (F : Fun K "_is_one_of" "_is_one_of" sEn f fd) (AM : Has P w K mg base "is_among" 1 ["names", "value"] (spAmo K)) : FnG P w K mg base CX0 2 f fd ["goods", "value"] (spEn K) := by
  refine okG F scEn (fun vs H Q E h => ?_) (fun cdv A out s H vs Q E g hr h => ?_)
  · obtain ⟨a, G, gs, rfl, _⟩ := h
    rfl
  · obtain ⟨a, G, gs, rfl, hq, ha, q⟩ := h
    refine ⟨_, (pss_one (ps_ret (pe_or (pe_cmpR op_isN (pv 1) pe_non (nomark _)) (pe_one (pe_has AM g hr (by rfl) (pa_cons (pv 0) (pa_cons (pv 1) pa_nil))))))), ?_⟩
    cases a with
    | none =>
      exact ⟨_, rfl, rfl, true, congrArg V.bl (decide_eq_true rfl), q _ (Same.refl' _)⟩
    | some x =>
      refine ⟨_, rfl, rfl, false, congrArg V.bl (decide_eq_false (by intro z; cases z)), ?_⟩
      refine ⟨_, rfl, _, rfl, rfl, rfl, x, G, gs, rfl, hq, fun H1 s1 => ?_⟩
      rw [in_strs (ha x rfl)]
      exact q H1 s1
theorem ok_cond {f : Addr} {fd : FuncData} (F : Fun K "_is_condition" "_is_condition" sCo f fd) (TR : Has P w K mg base "is_triple" 1 ["value"] spTr) (EN : Has P w K mg base "_is_one_of" 2 ["goods", "value"] (spEn K))
    (IT : Has P w K mg base "is_integer" 1 ["value"] spInt) : FnG P w K mg base CX0 3 f fd ["goods", "value"] (spCo K) := by
  refine okG F scCo (fun vs H Q E h => ?_) (fun cdv A out s H vs Q E g hr h => ?_)
  · obtain ⟨t, G, gs, r, rfl, _⟩ := h
    rfl
  · obtain ⟨t, G, gs, r, rfl, et, hq, GG, gr, q⟩ := h
    have hr1 : Room 1 _ := hr.mono (by decide)
    have hr2 : Room 2 _ := hr
    have hu := hr.units
    refine ⟨_, (pss_cons (ps_if (pt_not (pt_val (pe_has TR g hr1 (by rfl) (pa_cons (pv 1) pa_nil)))) (pss_one (ps_ret pe_bl)) pss_nil)
      (pss_cons (ps_asg (pv 1) (pg_tup rfl (pgs_cons (pg_name (i := 2) scCo.nd rfl (.inl rfl)) (pgs_cons (pg_name (i := 3) scCo.nd rfl (.inl rfl)) (pgs_cons (pg_name (i := 4) scCo.nd rfl (.inl rfl)) pgs_nil)))))
      (pss_one (ps_ret (pe_and (pe_has EN g hr2 (by rfl) (pa_cons (pv 0) (pa_cons (pv 2) pa_nil))) (pe_and (pe_has EN g hr2 (by rfl) (pa_cons (pv 0) (pa_cons (pv 3) pa_nil))) (pe_and (pe_cmpR (op_neD hu) (pv 2) (pv 3) (nomark _)) (pe_one (pe_has IT g hr1 (by rfl) (pa_cons (pv 4) pa_nil)))))))))), ?_⟩
    refine ⟨_, rfl, rfl, rfl, t, _, _, _, rfl, et, fun H1 s1 => ⟨_, rfl, ?_⟩⟩
    refine iteF ?_
    refine ⟨_, rfl, t, _, rfl, SqT.of (s1 _ _ et), rfl, _, _, rfl, _, _, rfl, _, _, rfl, rfl, ?_⟩
    refine ⟨_, rfl, _, rfl, rfl, rfl, r.1, G, gs, rfl, hq.same s1, gr.one, fun H2 s2 => ⟨true, rfl, ?_⟩⟩
    refine ⟨_, rfl, _, rfl, rfl, rfl, r.2.1, G, gs, rfl, (hq.same s1).same s2, gr.two, fun H3 s3 => ⟨true, rfl, ?_⟩⟩
    refine ⟨_, rfl, _, rfl, oD r.1, oD r.2.1, dp_o _, dp_o _, shaped_o GG _ gr.one, shaped_o GG _ gr.two, true, congrArg V.bl ?_, ?_⟩
    · rw [eqv_o, decide_eq_false gr.ne]
      rfl
    · exact ⟨_, rfl, rfl, rfl, r.2.2, rfl, fun H4 s4 => q H4 (((s1.trans s2).trans s3).trans s4)⟩
theorem ok_cg {f : Addr} {fd : FuncData} (F : Fun K "_check_goods" "_check_goods" sCg f fd) (T : Bi mg) (LS : Has P w K mg base "is_list" 1 ["value"] (spLs K)) (GD : Has P w K mg base "is_good" 2 ["value"] spNm) :
    FnG P w K mg base CX0 3 f fd ["goods"] (spCg K) := by
  refine okG F scCg (fun vs H Q E h => ?_) (fun cdv A out s H vs Q E g hr h => ?_)
  · obtain ⟨G, gs, rfl, _⟩ := h
    rfl
  · obtain ⟨G, gs, rfl, hq, GG, q⟩ := h
    have hr1 : Room 1 _ := hr.mono (by decide)
    have hu := hr.units
    refine ⟨_, (pss_cons (ps_if (PW.pt (pw_or (pt_not (pt_val (pe_has LS g hr1 (by rfl) (pa_cons (pv 0) pa_nil)))) (pw_or1 (pt_cmpR op_eq (pe_callB call_len_seq (by rfl) T.len PySem.boot_len (pa_cons (pv 0) pa_nil)) pe_int (nomark _))))) (pss_one ps_never) pss_nil)
      (pss_cons (ps_set (i := 1) scCg.nd rfl (.inl rfl) pe_dnewK)
      (pss_one (ps_for PassesOwn.never rfl (pi_enumA (by rfl) T.enumerate (pa_cons (pv 0) pa_nil)) (pg_tup rfl (pgs_cons (pg_name (i := 2) scCg.nd rfl (.inl rfl)) (pgs_cons (pg_name (i := 3) scCg.nd rfl (.inl rfl)) pgs_nil)))
      (pss_cons (ps_if (PW.pt (pw_or (pt_not (pt_val (pe_has GD g hr (by rfl) (pa_cons (pv 3) pa_nil)))) (pw_or1 (pt_cmp (pc_din (hu_of hr) (pv 3) (pv 1)))))) (pss_one ps_never) pss_nil)
      (pss_one (ps_dput (hu_of hr) (pv 1) (pv 3) pe_bl rfl))))))), ?_⟩
    refine ⟨_, rfl, rfl, rfl, G, _, rfl, hq, fun H1 s1 => ⟨_, rfl, ?_⟩⟩
    refine iteF ?_
    refine ⟨_, rfl, G, _, rfl, hq.same s1, rfl, _, rfl, ?_⟩
    have l1 := GG.l1
    have l2 := GG.l2
    rw [decide_eq_false (by intro z; injection z with z; rw [List.length_map] at z; omega)]
    refine iteF ?_
    intro d nd
    have nd0 : H d = none := s1.free nd
    refine ⟨_, rfl, G, gs.map V.str, rfl, ?_⟩
    refine for_enum hq (same_new s1 nd) (fun i σ' H' => ∃ p q, σ' = [some (.ref G), some (.ref d), p, q] ∧ Same H H' ∧ H' d = some (.dK (dKs (gs.take i)))) ⟨_, _, rfl, same_new s1 nd, upd_same⟩ (fun i σ' H' ⟨_, _, _, z, _⟩ => z) ?_ ?_
    · rintro i x σ' H2 H' hi ⟨p1, q1, rfl, s2, e2⟩ ⟨Tp, y, rfl, nT, rfl, hy⟩
      obtain ⟨x, hx, rfl⟩ := get_map hy
      have hT : Same H2 (upd H2 Tp (.tup [.int (i : Nat), .str x])) := same_new (Same.refl' _) nT
      refine ⟨Tp, _, rfl, SqT.of upd_same, rfl, _, _, rfl, _, _, rfl, rfl, ?_⟩
      refine ⟨_, rfl, rfl, rfl, x, rfl, GG.sub x (List.mem_of_getElem? hx), fun H3 s3 => ⟨_, rfl, ?_⟩⟩
      refine iteF ?_
      have e3 : H3 d = some (.dK (dKs (gs.take i))) := s3 _ _ (hT _ _ e2)
      have nx := nodup_at GG.nd hx
      refine ⟨_, rfl, _, rfl, d, _, rfl, DGet.k (k := Sum.inr x) e3, _, rfl, ?_⟩
      rw [dks_none nx]
      refine iteF ?_
      refine ⟨_, rfl, _, rfl, d, _, rfl, DPut.k (k := Sum.inr x) e3 (by unfold dKs; rw [List.length_map, List.length_take]; exact small1000 (by omega)), ?_⟩
      refine ⟨_, _, rfl, fun a o e => ?_, ?_⟩
      · rw [upd_ne (ne_of_none e nd0)]
        exact s3 _ _ (hT _ _ (s2 _ _ e))
      · rw [upd_same, dks_put nx, take_more hx]
    · rintro σ' H' ⟨_, _, rfl, z, _⟩
      exact q H' z
theorem ok_cc {f : Addr} {fd : FuncData} (F : Fun K "_check_conditions" "_check_conditions" sCc f fd) (T : Bi mg) (LS : Has P w K mg base "is_list" 1 ["value"] (spLs K)) (CO : Has P w K mg base "_is_condition" 3 ["goods", "value"] (spCo K)) :
    FnG P w K mg base CX0 4 f fd ["goods", "conditions"] (spCc K) := by
  refine okG F scCc (fun vs H Q E h => ?_) (fun cdv A out s H vs Q E g hr h => ?_)
  · obtain ⟨G, R, gs, rs, as, rfl, _⟩ := h
    rfl
  · obtain ⟨G, R, gs, rs, as, rfl, hq, hR, rows, GG, good, q⟩ := h
    have hr1 : Room 1 _ := hr.mono (by decide)
    refine ⟨_, (pss_cons (ps_if (pt_not (pt_val (pe_has LS g hr1 (by rfl) (pa_cons (pv 1) pa_nil)))) (pss_one ps_never) pss_nil)
      (pss_one (ps_for PassesOwn.never rfl (pi_enumA (by rfl) T.enumerate (pa_cons (pv 1) pa_nil)) (pg_tup rfl (pgs_cons (pg_name (i := 2) scCc.nd rfl (.inl rfl)) (pgs_cons (pg_name (i := 3) scCc.nd rfl (.inl rfl)) pgs_nil)))
      (pss_one (ps_if (pt_not (pt_val (pe_has CO g hr (by rfl) (pa_cons (pv 0) (pa_cons (pv 3) pa_nil))))) (pss_one ps_never) pss_nil))))), ?_⟩
    refine ⟨_, rfl, rfl, rfl, R, _, rfl, hR, fun H1 s1 => ⟨_, rfl, ?_⟩⟩
    refine iteF ?_
    refine ⟨_, rfl, R, as.map V.ref, rfl, ?_⟩
    refine for_enum hR s1 (fun i σ' H' => ∃ p q, σ' = [some (.ref G), some (.ref R), p, q] ∧ Same H H') ⟨_, _, rfl, s1⟩ (fun i σ' H' ⟨_, _, _, z⟩ => z) ?_ ?_
    · rintro i x σ' H2 H' hi ⟨p1, q1, rfl, s2⟩ ⟨Tp, y, rfl, nT, rfl, hy⟩
      obtain ⟨t, r, rfl, er, et⟩ := rows_at (rows_same rows s2) hy
      have hT : Same H2 (upd H2 Tp (.tup [.int (i : Nat), .ref t])) := same_new (Same.refl' _) nT
      refine ⟨Tp, _, rfl, SqT.of upd_same, rfl, _, _, rfl, _, _, rfl, rfl, ?_⟩
      refine ⟨_, rfl, _, rfl, rfl, rfl, t, G, gs, r, rfl, hT _ _ et, (hq.same s2).same hT, GG, good r (List.mem_of_getElem? er), fun H3 s3 => ⟨_, rfl, ?_⟩⟩
      refine iteF ?_
      exact ⟨_, _, rfl, (s2.trans hT).trans s3⟩
    · rintro σ' H' ⟨_, _, rfl, z⟩
      exact q H' z
end
end KM

set_option Elab.async false
set_option linter.all false
set_option maxRecDepth 100000
set_option maxHeartbeats 4000000
namespace KM
open PySem PySem.Spec PyProof.Rows L2 GL
open StX (pa_star)
/-! the class -/
abbrev mth (i : Nat) : Stmt := inClass (top 26) i
/-- what is so of the class and the file's constants -/
structure Cf (K : PySem.W.Frag) (mg : Str → Option Value) (C : Addr) : Prop where
  gM : mg "Moves" = some (.ref C)
  cl : Cls K C
  nG : NoAttr K C "_goods"
  nK : NoAttr K C "_conditions"
  hc : PySem.W.findIn K (.ref C) "__class__" = some (some (.builtin "object.__class__"))
  hn : PySem.W.specialIn K (.builtin "object.__class__") "__get__" = some (some (.builtin "getset_descriptor.__get__"))
  ht : PySem.W.takesIn K (.builtin "object.__class__") = some true
  hm : PySem.W.mroIn K C (.type "object") = some true
  kl : PySem.W.kitOne K (.type "list") (.ref C) = some false
  kt : PySem.W.kitOne K (.type "tuple") (.ref C) = some false
  kn : PySem.W.kitOne K (.type "NoneType") (.ref C) = some false
  ki : PySem.W.kitOne K (.type "int") (.ref C) = some false
  ks : PySem.W.kitOne K (.type "str") (.ref C) = some false
  c4 : ∃ t, mg "MOST_GOODS" = some (.int 4 t)
  c24 : ∃ t, mg "MOST_CONDITIONS" = some (.int 24 t)
theorem kit_own {K : PySem.W.Frag} {C : Addr} : PySem.W.kitOne K (.ref C) (.ref C) = some true := by
  unfold PySem.W.kitOne
  rw [if_pos (by simp)]
theorem lk_g (g c : Addr) : (flds g c).lookup ("_goods" : Str) = some (V.ref g) := by
  unfold flds
  rw [lookup_putF, if_neg (by decide), lookup_putF, if_pos rfl]
theorem lk_c (g c : Addr) : (flds g c).lookup ("_conditions" : Str) = some (V.ref c) := by
  unfold flds
  rw [lookup_putF, if_pos rfl]
section
variable {P : Program} {w : World} {K : PySem.W.Frag} {mg : Str → Option Value} {base : Heap} {C : Addr}
abbrev nSelf : List Str := ["self"]
theorem scGoods : FnScope nSelf ["self"] (defScope (mth 1)) := ⟨rfl, rfl, rfl, by decide +kernel, rfl, by decide +kernel, by decide +kernel⟩
theorem scConds : FnScope nSelf ["self"] (defScope (mth 2)) := ⟨rfl, rfl, rfl, by decide +kernel, rfl, by decide +kernel, by decide +kernel⟩
theorem scWo : FnScope ["self", "position"] ["self", "position"] (defScope (mth 4)) := ⟨rfl, rfl, rfl, by decide +kernel, rfl, by decide +kernel, by decide +kernel⟩
theorem scTi : FnScope ["self", "position", "one", "other", "most", "told"] ["self", "position"] (defScope (mth 5)) := ⟨rfl, rfl, rfl, by decide +kernel, rfl, by decide +kernel, by decide +kernel⟩
theorem scPs : FnScope ["self", "position"] ["self", "position"] (defScope (mth 3)) := ⟨rfl, rfl, rfl, by decide +kernel, rfl, by decide +kernel, by decide +kernel⟩
theorem scAdd : FnScope ["self", "other"] ["self", "other"] (defScope (mth 6)) := ⟨rfl, rfl, rfl, by decide +kernel, rfl, by decide +kernel, by decide +kernel⟩
theorem scLen : FnScope nSelf ["self"] (defScope (mth 7)) := ⟨rfl, rfl, rfl, by decide +kernel, rfl, by decide +kernel, by decide +kernel⟩
theorem scEqq : FnScope ["self", "other"] ["self", "other"] (defScope (mth 8)) := ⟨rfl, rfl, rfl, by decide +kernel, rfl, by decide +kernel, by decide +kernel⟩
theorem scRepr : FnScope nSelf ["self"] (defScope (mth 9)) := ⟨rfl, rfl, rfl, by decide +kernel, rfl, by decide +kernel, by decide +kernel⟩
theorem scInit : FnScope ["self", "goods", "conditions"] ["self", "goods", "conditions"] (defScope (mth 0)) := ⟨rfl, rfl, rfl, by decide +kernel, rfl, by decide +kernel, by decide +kernel⟩
theorem ok_goods {f : Addr} {fd : FuncData} (F : Fun K "goods" "Moves.goods" (mth 1) f fd) (T : Bi mg) (F4 : Cf K mg C) : FnG P w K mg base CX0 1 f fd ["self"] (spGoods C) := by
  refine okG F scGoods (fun vs H Q E h => ?_) (fun cdv A out s H vs Q E g hr h => ?_)
  · obtain ⟨m, gs, rs, rfl, _⟩ := h
    rfl
  · obtain ⟨m, gs, rs, rfl, ⟨dx, gg, c, as, e1, e2, e3, e4⟩, q⟩ := h
    refine ⟨_, (pss_one (ps_ret (pe_callTy call_listL (by rfl) T.list (by decide +kernel) (pa_cons (pe_fld (pv 0) rfl) pa_nil)))), ?_⟩
    exact ⟨_, rfl, m, C, dx, _, _, rfl, e1, F4.cl, F4.nG, lk_g gg c, gg, _, rfl, .inl (SqL.of e2), q⟩
theorem ok_conds {f : Addr} {fd : FuncData} (F : Fun K "conditions" "Moves.conditions" (mth 2) f fd) (T : Bi mg) (F4 : Cf K mg C) : FnG P w K mg base CX0 1 f fd ["self"] (spConds C) := by
  refine okG F scConds (fun vs H Q E h => ?_) (fun cdv A out s H vs Q E g hr h => ?_)
  · obtain ⟨m, gs, rs, rfl, _⟩ := h
    rfl
  · obtain ⟨m, gs, rs, rfl, ⟨dx, gg, c, as, e1, e2, e3, e4⟩, q⟩ := h
    refine ⟨_, (pss_one (ps_ret (pe_callTy call_listL (by rfl) T.list (by decide +kernel) (pa_cons (pe_fld (pv 0) rfl) pa_nil)))), ?_⟩
    exact ⟨_, rfl, m, C, dx, _, _, rfl, e1, F4.cl, F4.nK, lk_c gg c, c, _, rfl, .inl (SqL.of e3), fun L H1 n e s1 => q L as H1 n e (rows_same e4 s1) s1⟩
theorem ok_len {f : Addr} {fd : FuncData} (F : Fun K "__len__" "Moves.__len__" (mth 7) f fd) (T : Bi mg) (F4 : Cf K mg C) : FnG P w K mg base CX0 1 f fd ["self"] (spLen C) := by
  refine okG F scLen (fun vs H Q E h => ?_) (fun cdv A out s H vs Q E g hr h => ?_)
  · obtain ⟨m, gs, rs, rfl, _⟩ := h
    rfl
  · obtain ⟨m, gs, rs, rfl, ⟨dx, gg, c, as, e1, e2, e3, e4⟩, q⟩ := h
    refine ⟨_, (pss_one (ps_ret (pe_callB call_len_seq (by rfl) T.len PySem.boot_len (pa_cons (pe_fld (pv 0) rfl) pa_nil)))), ?_⟩
    refine ⟨_, rfl, m, C, dx, _, _, rfl, e1, F4.cl, F4.nK, lk_c gg c, c, _, rfl, .inl (SqL.of e3), ?_⟩
    have l : (as.map V.ref).length = rs.length := by rw [List.length_map]; exact Paired.length e4
    show Q (.int ((as.map V.ref).length : Nat)) H
    rw [l]
    exact q H (Same.refl' _)
theorem ok_repr {f : Addr} {fd : FuncData} (F : Fun K "__repr__" "Moves.__repr__" (mth 9) f fd) (T : Bi mg) (F4 : Cf K mg C) : FnG P w K mg base CX0 1 f fd ["self"] (spRepr C) := by
  refine okG F scRepr (fun vs H Q E h => ?_) (fun cdv A out s H vs Q E g hr h => ?_)
  · obtain ⟨m, gs, rs, rfl, _⟩ := h
    rfl
  · obtain ⟨m, gs, rs, rfl, ⟨dx, gg, c, as, e1, e2, e3, e4⟩, fit, q⟩ := h
    have hu := hr.units
    refine ⟨_, (pss_one (ps_ret (pe_joined (.cons pe_str (.cons (pe_fmtD g hu (pe_fld (pv 0) rfl)) (.cons pe_str (.cons (pe_fmtD g hu (pe_fld (pv 0) rfl)) (.cons pe_str .nil)))))))), ?_⟩
    have sg := sh_gs fit.g
    have sr := sh_rows fit.g fit.r
    have lg := sg.len
    have lr := sr.len
    have fn := fit.n
    have l1 : ("Moves(" : Str).length = 6 := rfl
    have l2 : (", " : Str).length = 2 := rfl
    have l3 : (")" : Str).length = 1 := rfl
    have l0 : (Str.empty).length = 0 := rfl
    have sz := sizeLine_eq
    have k0 : Str.empty ++ ("Moves(" : Str) = ("Moves(" : Str) := rfl
    refine ⟨_, rfl, by rw [k0]; omega, ?_⟩
    rw [k0]
    refine ⟨_, rfl, m, C, dx, _, _, rfl, e1, F4.cl, F4.nG, lk_g gg c, gg, gsD gs, rfl, dp_gs (SqL.of e2), sg.shows (by decide) (by decide), _, rfl, by rw [Str.length_append]; omega, ?_⟩
    refine ⟨_, rfl, by rw [Str.length_append, Str.length_append]; omega, ?_⟩
    refine ⟨_, rfl, m, C, dx, _, _, rfl, e1, F4.cl, F4.nK, lk_c gg c, c, rowsD rs, rfl, dp_rows e4 (SqL.of e3), sr.shows (by omega) (by decide), _, rfl, by simp only [Str.length_append]; omega, ?_⟩
    refine ⟨_, rfl, by simp only [Str.length_append]; omega, ?_⟩
    exact q H (Same.refl' _)
theorem ok_eq {f : Addr} {fd : FuncData} (F : Fun K "__eq__" "Moves.__eq__" (mth 8) f fd) (T : Bi mg) (F4 : Cf K mg C) : FnG P w K mg base CX0 1 f fd ["self", "other"] (spEq K C) := by
  refine okG F scEqq (fun vs H Q E h => ?_) (fun cdv A out s H vs Q E g hr h => ?_)
  · obtain ⟨m, gs, rs, y, rfl, _⟩ := h
    rfl
  · obtain ⟨m, gs, rs, y, rfl, ⟨dx, gg, c, as, e1, e2, e3, e4⟩, fit, q⟩ := h
    have hu := hr.units
    refine ⟨_, (pss_one (ps_ret (pe_and (pe_callB call_isi (by rfl) T.isinstance (by decide +kernel) (pa_cons (pv 1) (pa_cons (pe_glob (v := .ref C) (by rfl) F4.gM rfl) pa_nil))) (pe_and (pe_cmpR (op_eqD hu) (pe_fld (pv 0) rfl) (pe_fld (pv 1) rfl) (nomark _)) (pe_one (pe_cmpR (op_eqD hu) (pe_fld (pv 0) rfl) (pe_fld (pv 1) rfl) (nomark _))))))), ?_⟩
    rcases q with ⟨m2, gs2, rs2, rfl, ⟨dx2, gg2, c2, as2, f1, f2, f3, f4⟩, fit2, q⟩ | ⟨hy, q⟩
    · refine ⟨_, rfl, .ref m2, .ref C, .ref C, .ref C, true, rfl, .own C, .base (.ins f1 F4.cl F4.hc F4.hn F4.ht F4.hm), kit_own, true, rfl, ?_⟩
      refine ⟨_, rfl, m, C, dx, _, _, rfl, e1, F4.cl, F4.nG, lk_g gg c, _, rfl, m2, C, dx2, _, _, rfl, f1, F4.cl, F4.nG, lk_g gg2 c2, gsD gs, gsD gs2, dp_gs (SqL.of e2), dp_gs (SqL.of f2), shaped_gs fit.g, shaped_gs fit2.g, ?_⟩
      rw [eqv_gs]
      by_cases hg : gs = gs2
      · refine ⟨true, congrArg V.bl (decide_eq_true hg), ?_⟩
        refine ⟨_, rfl, m, C, dx, _, _, rfl, e1, F4.cl, F4.nK, lk_c gg c, _, rfl, m2, C, dx2, _, _, rfl, f1, F4.cl, F4.nK, lk_c gg2 c2, rowsD rs, rowsD rs2, dp_rows e4 (SqL.of e3), dp_rows f4 (SqL.of f3), shaped_rows fit.g fit.r, shaped_rows fit2.g fit2.r, ?_⟩
        rw [eqv_rows]
        have z := q H (Same.refl' _)
        have e : decide (gs = gs2 ∧ rs = rs2) = decide (rs = rs2) := by simp [hg]
        rw [e] at z
        exact z
      · refine ⟨false, congrArg V.bl (decide_eq_false hg), ?_⟩
        have z := q H (Same.refl' _)
        have e : decide (gs = gs2 ∧ rs = rs2) = false := decide_eq_false fun w => hg w.1
        rw [e] at z
        exact z
    · obtain ⟨t, ht, kt⟩ : ∃ t, TyX K H y t ∧ PySem.W.kitOne K t (.ref C) = some false := by
        rcases hy with ⟨a, xs, rfl, ea | ea⟩ | rfl | ⟨i, rfl⟩ | ⟨z, rfl⟩
        · exact ⟨_, .base (.lst ea), F4.kl⟩
        · exact ⟨_, .base (.tup ea), F4.kt⟩
        · exact ⟨_, .base .non, F4.kn⟩
        · exact ⟨_, .base (.int i), F4.ki⟩
        · exact ⟨_, .base (.str z), F4.ks⟩
      exact ⟨_, rfl, y, .ref C, t, .ref C, false, rfl, .own C, ht, kt, false, rfl, q H (Same.refl' _)⟩
/-! making, changing -/
theorem Sq.ins {H : Hp} {a x dx : Addr} {xs : List V} {fs : List (Str × V)} {o : HO} (h : Sq K H a xs) (e : H x = some (.ins C dx fs)) : Sq K (upd H x o) a xs := by
  have k : ∀ {u : HO}, H a = some u → a ≠ x ∨ u = .ins C dx fs := fun {u} z => by
    by_cases q : a = x
    · subst q
      rw [e] at z
      exact .inr (Option.some.inj z).symm
    · exact .inl q
  rcases h with ((h | ⟨u, h⟩) | h) | ((h | ⟨u, h⟩) | h)
  · rcases k h with n | n
    · exact .inl (.inl (.inl (by rw [upd_ne n]; exact h)))
    · cases n
  · rcases k h with n | n
    · exact .inl (.inl (.inr ⟨u, by rw [upd_ne n]; exact h⟩))
    · cases n
  · exact .inl (.inr h)
  · rcases k h with n | n
    · exact .inr (.inl (.inl (by rw [upd_ne n]; exact h)))
    · cases n
  · rcases k h with n | n
    · exact .inr (.inl (.inr ⟨u, by rw [upd_ne n]; exact h⟩))
    · cases n
  · exact .inr (.inr h)
theorem rows_ins {H : Hp} {x dx : Addr} {fs : List (Str × V)} {o : HO} {as : List Addr} {rs : List Row} (h : RowsIn H as rs) (e : H x = some (.ins C dx fs)) : RowsIn (upd H x o) as rs :=
  rows_keep h fun t xs z => by rw [upd_ne (ne_of z e (by intro q; cases q))]; exact z
theorem MovesNew.back {H Hc H' : Hp} {m : Addr} {gs : List Str} {rs : List Row} (h : MovesNew C Hc H' m gs rs) (s : Same H Hc) : MovesNew C H H' m gs rs := by
  obtain ⟨dx, g, c, as, e1, e2, e3, e4, n1, n2⟩ := h
  exact ⟨dx, g, c, as, e1, e2, e3, e4, s.free n1, s.free n2⟩
theorem ok_init {f T0 : Addr} {fd : FuncData} (F : FunD K "__init__" "Moves.__init__" (defArgs (mth 0)) (defBody (mth 0)) (defScope (mth 0)) [.ref T0] [] f fd) (T : Bi mg) (F4 : Cf K mg C)
    (CG : Has P w K mg base "_check_goods" 3 ["goods"] (spCg K)) (CC : Has P w K mg base "_check_conditions" 4 ["goods", "conditions"] (spCc K)) :
    FnG P w K mg base CX0 5 f fd ["self", "goods", "conditions"] (spInit K C) := by
  obtain ⟨t4, h4⟩ := F4.c4
  obtain ⟨t24, h24⟩ := F4.c24
  refine okGD F scInit (fun vs H Q E h => ?_) (fun cdv A out s H vs Q E g hr h => ?_)
  · obtain ⟨x, dx, G, D, gs, as, rs, rfl, _⟩ := h
    rfl
  · obtain ⟨x, dx, G, D, gs, as, rs, rfl, hx, hG, hD, rows, GG, good, len, q⟩ := h
    have hr3 : Room 3 _ := hr.mono (by decide)
    have hr4i : Room 4 _ := hr
    have hG' : Sq K H G (gs.map V.str) := hG
    have hD' : Sq K H D (as.map V.ref) := hD
    have la : (as.map V.ref).length = rs.length := by rw [List.length_map]; exact Paired.length rows
    refine ⟨_, (pss_cons (ps_expr (pe_has CG g hr3 (by rfl) (pa_cons (pv 1) pa_nil)))
      (pss_cons (ps_expr (pe_has CC g hr4i (by rfl) (pa_cons (pv 1) (pa_cons (pv 2) pa_nil))))
      (pss_cons (ps_if (pt_cmpR op_gt (pe_callB call_len_seq (by rfl) T.len PySem.boot_len (pa_cons (pv 1) pa_nil)) (pe_glob (v := .int 4) (by rfl) h4 ⟨_, rfl⟩) (nomark _)) (pss_one L2.ps_never) pss_nil)
      (pss_cons (ps_if (pt_cmpR op_gt (pe_callB call_len_seq (by rfl) T.len PySem.boot_len (pa_cons (pv 2) pa_nil)) (pe_glob (v := .int 24) (by rfl) h24 ⟨_, rfl⟩) (nomark _)) (pss_one L2.ps_never) pss_nil)
      (pss_cons (ps_fld (pv 0) (pe_callB call_sortLT (by rfl) T.sorted (by decide +kernel) (pa_cons (pv 1) pa_nil)) rfl)
      (pss_one (ps_fld (pv 0) (pe_callTy call_listL (by rfl) T.list (by decide +kernel) (pa_cons (pv 2) pa_nil)) rfl))))))), ?_⟩
    refine ⟨_, rfl, rfl, rfl, G, gs, rfl, hG', GG, fun H1 s1 => ?_⟩
    refine ⟨_, rfl, _, rfl, rfl, rfl, G, D, gs, rs, as, rfl, hG'.same s1, hD'.same s1, rows_same rows s1, GG, good, fun H2 s2 => ?_⟩
    have s12 := s1.trans s2
    have l2 := GG.l2
    refine ⟨_, rfl, G, _, rfl, hG'.same s12, _, _, rfl, rfl, _, rfl, ?_⟩
    refine ite2 (fun c => absurd (of_decide_eq_true c) (by rw [List.length_map]; omega)) (fun _ => ?_)
    refine ⟨_, rfl, D, _, rfl, hD'.same s12, _, _, rfl, rfl, _, rfl, ?_⟩
    refine ite2 (fun c => absurd (of_decide_eq_true c) (by rw [la]; omega)) (fun _ => ?_)
    refine ⟨_, rfl, G, gs, rfl, hG'.same s12, by omega, fun ys p1 p2 g1 H3 n3 e3 s3 => ?_⟩
    have s13 := s12.trans s3
    have hx3 := s13 _ _ hx
    refine ⟨_, rfl, x, C, dx, _, rfl, hx3, F4.cl, F4.nG, by show 0 < 1000; decide, ?_⟩
    have hx4 : (upd H3 x (.ins C dx (putF "_goods" (.ref g1) []))) x = some (.ins C dx (putF "_goods" (.ref g1) [])) := upd_same
    refine ⟨_, rfl, D, _, rfl, (hD'.same s13).ins hx3, fun c1 H4 n4 e4 s4 => ?_⟩
    refine ⟨_, rfl, x, C, dx, _, rfl, s4 _ _ hx4, F4.cl, F4.nK, by show 1 < 1000; decide, ?_⟩
    have ng : g1 ≠ x := ne_of e3 hx3 (by intro z; cases z)
    have nc : c1 ≠ x := ne_some n4 hx4
    have n4' : H3 c1 = none := by rw [upd_ne nc] at n4; exact n4
    refine q ys _ p1 p2 ⟨dx, g1, c1, as, upd_same, ?_, ?_, ?_, s12.free n3, s13.free n4'⟩ fun a o na e => ?_
    · rw [upd_ne ng]
      refine s4 _ _ ?_
      rw [upd_ne ng]
      exact e3
    · rw [upd_ne nc]
      exact e4
    · exact rows_ins (rows_same (rows_ins (rows_same rows s13) hx3) s4) (s4 _ _ hx4)
    · rw [upd_ne na]
      refine s4 _ _ ?_
      rw [upd_ne na]
      exact s13 _ _ e
def spPs (C : Addr) : Sp := fun vs H Q _ => ∃ m gs rs, ∃ i : Nat, vs = [.ref m, .int i] ∧ MovesAt C H m gs rs ∧ i < rs.length ∧ ∀ H', Same H H' → Q .non H'
theorem ok_pos {f : Addr} {fd : FuncData} (F : Fun K "_check_position" "Moves._check_position" (mth 3) f fd) (T : Bi mg) (F4 : Cf K mg C) (CN : Has P w K mg base "is_count" 2 ["value"] spCnt) :
    FnG P w K mg base CX0 3 f fd ["self", "position"] (spPs C) := by
  refine okG F scPs (fun vs H Q E h => ?_) (fun cdv A out s H vs Q E g hr h => ?_)
  · obtain ⟨m, gs, rs, i, rfl, _⟩ := h
    rfl
  · obtain ⟨m, gs, rs, i, rfl, ⟨dx, gg, c, as, e1, e2, e3, e4⟩, hi, q⟩ := h
    have la : (as.map V.ref).length = rs.length := by rw [List.length_map]; exact Paired.length e4
    refine ⟨_, (pss_one (ps_if (PW.pt (pw_or (pt_not (pt_val (pe_has CN g hr (by rfl) (pa_cons (pv 1) pa_nil)))) (pw_or1 (pt_cmpR op_ge (pv 1) (pe_callB call_len_seq (by rfl) T.len PySem.boot_len (pa_cons (pe_fld (pv 0) rfl) pa_nil)) (nomark _))))) (pss_one L2.ps_never) pss_nil)), ?_⟩
    refine ⟨_, rfl, rfl, rfl, (i : Int), rfl, by omega, fun H1 s1 => ⟨_, rfl, ?_⟩⟩
    refine iteF ?_
    refine ⟨_, rfl, _, rfl, m, C, dx, _, _, rfl, s1 _ _ e1, F4.cl, F4.nK, lk_c gg c, c, _, rfl, .inl (SqL.of (s1 _ _ e3)), _, _, rfl, rfl, _, rfl, ?_⟩
    refine ite2 (fun c => absurd (of_decide_eq_true c) (by rw [la]; omega)) (fun _ => ?_)
    exact q H1 s1
theorem ok_wo {f : Addr} {fd : FuncData} (F : Fun K "without" "Moves.without" (mth 4) f fd) (T : Bi mg) (F4 : Cf K mg C) (CP : HasM P w K mg base C "_check_position" 3 ["self", "position"] (spPs C))
    (MK : HasC P w K mg base C 6 ["self", "goods", "conditions"] (spInit K C) 2 [] (fun vs _ => vs)) : FnG P w K mg base CX0 8 f fd ["self", "position"] (spWithout C) := by
  refine okG F scWo (fun vs H Q E h => ?_) (fun cdv A out s H vs Q E g hr h => ?_)
  · obtain ⟨m, gs, rs, i, rfl, _⟩ := h
    rfl
  · obtain ⟨m, gs, rs, i, rfl, hm, fit, hi, q⟩ := h
    have hr4 : Room 3 _ := hr.mono (by decide)
    obtain ⟨dx, gg, c, as, e1, e2, e3, e4⟩ := id hm
    have la : (as.map V.ref).length = rs.length := by rw [List.length_map]; exact Paired.length e4
    have lk : ∀ nm : Str, ¬ nm = "_conditions" → ¬ nm = "_goods" → (flds gg c).lookup nm = none := fun nm h1 h2 => by
      unfold flds
      rw [lookup_putF, if_neg h1, lookup_putF, if_neg h2]
      rfl
    have fn := fit.n
    have sz := sizeLine_eq
    refine ⟨_, (pss_cons (ps_expr (pe_hasM (n := 1) CP F4.cl g hr4 rfl (pv 0) (pa_cons (pv 1) pa_nil)))
      (pss_one (ps_ret (pe_hasC MK g hr (by rfl) F4.gM (pa_cons (pe_fld (pv 0) rfl) (pa_cons (pe_op op_catL (pe_slice slcL (pe_fld (pv 0) rfl) po_none (po_some (pv 1))) (pe_slice slcL (pe_fld (pv 0) rfl) (po_some (pe_op op_add (pv 1) pe_int)) po_none)) pa_nil)) pk_nil)))), ?_⟩
    refine ⟨_, rfl, m, dx, _, rfl, e1, lk _ (by decide +kernel) (by decide +kernel), _, rfl, rfl, rfl, m, gs, rs, i, rfl, hm, hi, fun H1 s1 => ?_⟩
    refine ⟨_, rfl, m, C, dx, _, _, rfl, s1 _ _ e1, F4.cl, F4.nG, lk_g gg c, ?_⟩
    refine ⟨_, rfl, m, C, dx, _, _, rfl, s1 _ _ e1, F4.cl, F4.nK, lk_c gg c, _, rfl, (i : Int), rfl, c, _, rfl, SqL.of (s1 _ _ e3), fun A1 H2 n2 e2' s2 => ?_⟩
    rw [cut_take (by omega)] at e2'
    have s12 := s1.trans s2
    refine ⟨_, rfl, m, C, dx, _, _, rfl, s12 _ _ e1, F4.cl, F4.nK, lk_c gg c, _, rfl, _, _, rfl, rfl, (i : Int) + 1, rfl, c, _, rfl, SqL.of (s12 _ _ e3), fun A2 H3 n3 e3' s3 => ?_⟩
    have ei : (i : Int) + 1 = ((i + 1 : Nat) : Int) := by omega
    rw [ei, cut_drop (by omega)] at e3'
    have s13 := s12.trans s3
    refine ⟨A1, A2, _, _, rfl, rfl, s3 _ _ e2', e3', by simp only [List.length_take, List.length_drop]; omega, fun L H4 n4 e4' s4 => ⟨rfl, rfl, ?_⟩⟩
    have s14 := s13.trans s4
    have r4 := rows_same e4 s14
    have eL : H4 L = some (.lst ((as.take i ++ as.drop (i + 1)).map V.ref)) := by rw [e4']; simp [List.map_take, List.map_drop]
    refine q_new (.inl (SqL.of (s14 _ _ e2))) (.inl (SqL.of eL)) (rows_app (rows_take i r4) (rows_drop (i + 1) r4)) fit.g (fun z hz => fit.r z ((List.mem_append.mp hz).elim List.mem_of_mem_take List.mem_of_mem_drop))
      (by simp only [List.length_append, List.length_take, List.length_drop]; omega) fun x hs H5 nx ph fx mn s5 => ?_
    obtain rfl : hs = gs := fit_one fit fx ph
    exact q x H5 (s14.free nx) (s14.trans s5) (mn.back s14)
theorem ok_ti {f : Addr} {fd : FuncData} (F : Fun K "tightened" "Moves.tightened" (mth 5) f fd) (T : Bi mg) (F4 : Cf K mg C) (CP : HasM P w K mg base C "_check_position" 3 ["self", "position"] (spPs C))
    (CD : HasM P w K mg base C "conditions" 1 ["self"] (spConds C)) (MK : HasC P w K mg base C 6 ["self", "goods", "conditions"] (spInit K C) 2 [] (fun vs _ => vs)) :
    FnG P w K mg base CX0 8 f fd ["self", "position"] (spTight C) := by
  refine okG F scTi (fun vs H Q E h => ?_) (fun cdv A out s H vs Q E g hr h => ?_)
  · obtain ⟨m, gs, rs, r, i, rfl, _⟩ := h
    rfl
  · obtain ⟨m, gs, rs, r, i, rfl, hm, fit, hir, low, q⟩ := h
    have hr4 : Room 3 _ := hr.mono (by decide)
    have hr1 : Room 1 _ := hr.mono (by decide)
    obtain ⟨dx, gg, c, as, e1, e2, e3, e4⟩ := id hm
    have hi : i < rs.length := (List.getElem?_eq_some_iff.mp hir).1
    have la : (as.map V.ref).length = rs.length := by rw [List.length_map]; exact Paired.length e4
    have lk : ∀ nm : Str, ¬ nm = "_conditions" → ¬ nm = "_goods" → (flds gg c).lookup nm = none := fun nm h1 h2 => by
      unfold flds
      rw [lookup_putF, if_neg h1, lookup_putF, if_neg h2]
      rfl
    have fn := fit.n
    have sz := sizeLine_eq
    have grr := fit.r r (List.mem_of_getElem? hir)
    refine ⟨_, (pss_cons (ps_expr (pe_hasM (n := 1) CP F4.cl g hr4 rfl (pv 0) (pa_cons (pv 1) pa_nil)))
      (pss_cons (ps_asg (pe_ix ix_list (pe_fld (pv 0) rfl) (pv 1) (fun _ _ => rfl)) (pg_tup rfl (pgs_cons (pg_name (i := 2) scTi.nd rfl (.inl rfl)) (pgs_cons (pg_name (i := 3) scTi.nd rfl (.inl rfl)) (pgs_cons (pg_name (i := 4) scTi.nd rfl (.inl rfl)) pgs_nil)))))
      (pss_cons (ps_set (i := 5) scTi.nd rfl (.inl rfl) (pe_hasM0 CD F4.cl g hr1 rfl (pv 0)))
      (pss_cons (ps_asg (pe_tupL (pa_cons (pv 2) (pa_cons (pv 3) (pa_cons (pe_op op_sub (pv 4) pe_int) pa_nil)))) (pg_sub (pv 5) (pv 1) set_list))
      (pss_one (ps_ret (pe_hasC MK g hr (by rfl) F4.gM (pa_cons (pe_fld (pv 0) rfl) (pa_cons (pv 5) pa_nil)) pk_nil))))))), ?_⟩
    refine ⟨_, rfl, m, dx, _, rfl, e1, lk _ (by decide +kernel) (by decide +kernel), _, rfl, rfl, rfl, m, gs, rs, i, rfl, hm, hi, fun H1 s1 => ?_⟩
    obtain ⟨v, a1, a2⟩ := atI_of (xs := as.map V.ref) (d := (i : Int)) (by omega) (by omega)
    rw [Int.toNat_natCast] at a2
    obtain ⟨t, r', rfl, er, et⟩ := rows_at (rows_same e4 s1) a2
    rw [hir] at er
    cases er
    refine ⟨_, rfl, m, C, dx, _, _, rfl, s1 _ _ e1, F4.cl, F4.nK, lk_c gg c, _, rfl, c, _, (i : Int), .ref t, rfl, rfl, SqL.of (s1 _ _ e3), a1, t, _, rfl, SqT.of et, rfl, _, _, rfl, _, _, rfl, _, _, rfl, rfl, ?_⟩
    refine ⟨_, rfl, m, dx, _, rfl, s1 _ _ e1, lk _ (by decide +kernel) (by decide +kernel), rfl, rfl, m, gs, rs, rfl, hm.same s1, fun L bs H2 n2 eL rb s2 => ?_⟩
    have lb : (bs.map V.ref).length = rs.length := by rw [List.length_map]; exact Paired.length rb
    have s12 := s1.trans s2
    refine ⟨_, rfl, _, rfl, _, rfl, _, _, rfl, rfl, by show 3 ≤ sizeLine; decide, fun t1 H3 n3 e3' s3 => ?_⟩
    have s13 := s12.trans s3
    refine ⟨_, rfl, _, rfl, L, _, (i : Int), i, rfl, rfl, s3 _ _ eL, ?_, ?_⟩
    · unfold ixN
      rw [if_pos (by omega), if_pos (by omega)]
      simp
    have nL : H L = none := s1.free n2
    have s14 : Same H (upd H3 L (.lst ((bs.map V.ref).set i (.ref t1)))) := fun a o e => by
      rw [upd_ne (ne_of_none e nL)]
      exact s13 _ _ e
    have nt : t1 ≠ L := ne_of e3' (s3 _ _ eL) (by intro z; cases z)
    refine ⟨_, rfl, m, C, dx, _, _, rfl, s14 _ _ e1, F4.cl, F4.nG, lk_g gg c, _, rfl, rfl, rfl, ?_⟩
    have eL4 : (upd H3 L (.lst ((bs.map V.ref).set i (.ref t1)))) L = some (.lst ((bs.take i ++ [t1] ++ bs.drop (i + 1)).map V.ref)) := by
      rw [upd_same, ← List.map_set, List.set_eq_take_append_cons_drop, if_pos (by rw [List.length_map] at lb; omega)]
      simp
    have r3 : RowsIn (upd H3 L (.lst ((bs.map V.ref).set i (.ref t1)))) bs rs := rows_keep (rows_same rb s3) fun u xs e => by
      rw [upd_ne (ne_of e (s3 _ _ eL) (by intro z; cases z))]
      exact e
    have et1 : RowAt (upd H3 L (.lst ((bs.map V.ref).set i (.ref t1)))) t1 (less1 r) := by
      show (upd H3 L _) t1 = _
      rw [upd_ne nt]
      exact e3'
    refine q_new (.inl (SqL.of (s14 _ _ e2))) (.inl (SqL.of eL4)) (rows_app (rows_app (rows_take i r3) (.cons et1 .nil)) (rows_drop (i + 1) r3)) fit.g ?_ (by simp only [List.length_append, List.length_take, List.length_drop, List.length_cons, List.length_nil]; omega) fun x hs H5 nx ph fx mn s5 => ?_
    · intro z hz
      rcases List.mem_append.mp hz with hz | hz
      · rcases List.mem_append.mp hz with hz | hz
        · exact fit.r z (List.mem_of_mem_take hz)
        · rw [List.mem_singleton.mp hz]
          exact ⟨grr.ne, grr.one, grr.two, by show (r.2.2 - 1).natAbs ≤ 100; omega⟩
      · exact fit.r z (List.mem_of_mem_drop hz)
    · obtain rfl : hs = gs := fit_one fit fx ph
      exact q x H5 (s14.free nx) (s14.trans s5) (mn.back s14)
theorem ok_add {f : Addr} {fd : FuncData} (F : Fun K "__add__" "Moves.__add__" (mth 6) f fd) (T : Bi mg) (F4 : Cf K mg C) (CO : Has P w K mg base "_is_condition" 3 ["goods", "value"] (spCo K))
    (MK : HasC P w K mg base C 6 ["self", "goods", "conditions"] (spInit K C) 2 [] (fun vs _ => vs)) : FnG P w K mg base CX0 8 f fd ["self", "other"] (spAdd C) := by
  refine okG F scAdd (fun vs H Q E h => ?_) (fun cdv A out s H vs Q E g hr h => ?_)
  · obtain ⟨m, t, gs, rs, r, rfl, _⟩ := h
    rfl
  · obtain ⟨m, t, gs, rs, r, rfl, hm, fit, et, gr, len, q⟩ := h
    have hr2 : Room 3 _ := hr.mono (by decide)
    obtain ⟨dx, gg, c, as, e1, e2, e3, e4⟩ := id hm
    have la : (as.map V.ref).length = rs.length := by rw [List.length_map]; exact Paired.length e4
    have sz := sizeLine_eq
    refine ⟨_, (pss_cons (ps_if (pt_not (pt_val (pe_has CO g hr2 (by rfl) (pa_cons (pe_fld (pv 0) rfl) (pa_cons (pv 1) pa_nil))))) (pss_one L2.ps_never) pss_nil)
      (pss_one (ps_ret (pe_hasC MK g hr (by rfl) F4.gM (pa_cons (pe_fld (pv 0) rfl) (pa_cons (pe_lstL (pa_star (pe_fld (pv 0) rfl) (pa_cons (pv 1) pa_nil))) pa_nil)) pk_nil)))), ?_⟩
    refine ⟨_, rfl, m, C, dx, _, _, rfl, e1, F4.cl, F4.nG, lk_g gg c, _, rfl, rfl, rfl, t, gg, gs, r, rfl, et, .inl (SqL.of e2), fit.g, gr, fun H1 s1 => ⟨_, rfl, ?_⟩⟩
    refine iteF ?_
    refine ⟨_, rfl, m, C, dx, _, _, rfl, s1 _ _ e1, F4.cl, F4.nG, lk_g gg c, ?_⟩
    refine ⟨_, rfl, m, C, dx, _, _, rfl, s1 _ _ e1, F4.cl, F4.nK, lk_c gg c, c, _, rfl, .inr (SqL.of (s1 _ _ e3)), _, rfl, by rw [List.length_append, la]; show rs.length + 1 ≤ _; omega, fun L H2 n2 eL s2 => ⟨rfl, rfl, ?_⟩⟩
    have s12 := s1.trans s2
    have eL' : H2 L = some (.lst ((as ++ [t]).map V.ref)) := by rw [eL, List.map_append]; rfl
    refine q_new (rs := rs ++ [r]) (.inl (SqL.of (s12 _ _ e2))) (.inl (SqL.of eL')) (rows_app (rows_same e4 s12) (.cons (s12 _ _ et) .nil)) fit.g ?_ (by simp; omega) fun x hs H5 nx ph fx mn s5 => ?_
    · intro z hz
      rcases List.mem_append.mp hz with hz | hz
      · exact fit.r z hz
      · rw [List.mem_singleton.mp hz]; exact gr
    · obtain rfl : hs = gs := fit_one fit fx ph
      exact q x H5 (s12.free nx) (s12.trans s5) (mn.back s12)
end
end KM

set_option Elab.async false
set_option linter.all false
set_option maxRecDepth 100000
set_option maxHeartbeats 4000000
namespace GL
open PySem PySem.Spec PyProof.Rows L2
/-! what the top has left, a def as one fact -/
structure Gf (K : PySem.W.Frag) (mg : Str → Option Value) (x : Str) (st : Stmt) : Prop where
  ex : ∃ f fd, mg x = some (.ref f) ∧ Fun K x x st f fd
structure Mf (K : PySem.W.Frag) (C : Addr) (m qual : Str) (st : Stmt) : Prop where
  ex : ∃ f fd, Meth K C m f ∧ Fun K m qual st f fd
section
variable {K : PySem.W.Frag} {mg : Str → Option Value} {h : Heap} {x m qual : Str} {st : Stmt} {f C : Addr} {oc kV doc pm cd ct : Value} {od an : Option Addr} {osl : Array (Option Value)}
theorem gf_mk (X : K.In h) (G : h.Ns mainGlobals mg) (a : PySem.W.nsIn K mainGlobals x = some (some (.ref f)))
    (l : K.lookup f = some ⟨oc, od, .func (PySem.W.fnOf x x (defArgs st) (defBody st) (defScope st) .none kV doc pm an cd ct), osl⟩) (c : PySem.W.codeIn K cd x = true) (k : PySem.W.keepIn K (.ref f) = true) : Gf K mg x st :=
  ⟨f, _, PySem.W.mg_of X G a, fun_mk l c k⟩
theorem mf_mk (a : PySem.W.findIn K (.ref C) m = some (some (.ref f))) (i : PySem.W.isFn K (.ref f) = true)
    (l : K.lookup f = some ⟨oc, od, .func (PySem.W.fnOf m qual (defArgs st) (defBody st) (defScope st) .none kV doc pm an cd ct), osl⟩) (c : PySem.W.codeIn K cd qual = true) (k : PySem.W.keepIn K (.ref f) = true) : Mf K C m qual st :=
  ⟨f, _, ⟨a, i, k⟩, fun_mk l c k⟩
end
section
variable {P : Program} {w : World} {K : PySem.W.Frag} {mg : Str → Option Value} {base : Heap} {k : Nat} {x m qual : Str} {ps : List Str} {sp : Sp} {st : Stmt} {C : Addr}
abbrev Binds0 (x qual : Str) (st : Stmt) (ps : List Str) : Prop := ∀ (kV doc pm : Value) (an : Option Addr) (cdv ct : Value) (us : List Value), us.length = ps.length →
  bindArgs (PySem.W.fnOf x qual (defArgs st) (defBody st) (defScope st) .none kV doc pm an cdv ct) ⟨us, []⟩ = pure (ps.zip us)
theorem Gf.has (g : Gf K mg x st) (b : Binds0 x x st ps) (F : ∀ f fd, Fun K x x st f fd → FnG P w K mg base CX0 k f fd ps sp) : Has P w K mg base x k ps sp := by
  obtain ⟨f, fd, a, u⟩ := g.ex
  exact ⟨f, fd, a, u.kp, F f fd u, kbPlace u b⟩
theorem Mf.has (g : Mf K C m qual st) (b : Binds0 m qual st ps) (F : ∀ f fd, Fun K m qual st f fd → FnG P w K mg base CX0 k f fd ps sp) : HasM P w K mg base C m k ps sp := by
  obtain ⟨f, fd, a, u⟩ := g.ex
  exact ⟨f, fd, a, F f fd u, kbPlace u b⟩
/-- a def with defaults: what a call binds -/
theorem kbDef {params : Arguments} {body : List Stmt} {scope : Scope} {dvs : List V} {f : Addr} {fd : FuncData} (F : FunD K x qual params body scope dvs [] f fd) (n : Nat) (ks : List Str) (g : {α : Type} → List α → List α → List α → List α) (hd : dvs ≠ [])
    (hrel : ∀ {vs ds zs : List V} {us its ws : List Value}, Vals vs us → Vals ds its → Vals zs ws → Vals (g vs ds zs) (g us its ws))
    (b : ∀ (T : Addr) (kV doc pm : Value) (an : Option Addr) (cdv ct : Value) (us its ws : List Value), us.length = n → its.length = dvs.length → ws.length = ks.length →
      ∃ r, bindArgs (PySem.W.fnOf x qual params body scope (.ref T) kV doc pm an cdv ct) ⟨us, ks.zip ws⟩ = seqItems? (.ref T) >>= r ∧ r (some its.toArray) = pure (ps.zip (g us its ws))) :
    ∃ g1, KBn K fd ps n ks g1 (fun vs zs => g vs dvs zs) := by
  obtain ⟨oc, od, dV, kV, doc, pm, an, cdv, ct, osl, rfl, lk, hcd, hD, _⟩ := F.ex
  rcases hD with ⟨e, _⟩ | ⟨_, T, o, its, q, rfl, lT, oT, rT⟩
  · exact absurd e hd
  · refine ⟨fun us ws => g us its ws, fun s us ws X l1 l2 => ?_, fun r1 r2 => hrel r1 rT r2⟩
    obtain ⟨r, e1, e2⟩ := b T kV doc pm an cdv ct us its ws l1 rT.length.symm l2
    refine BindsTo.of_looks fun M => ?_
    rw [e1]
    exact looks_items X lT oT (.of_pure e2)
end
end GL
namespace KM
open PySem PySem.Spec PyProof.Rows L2 GL
section
variable {P : Program} {w : World} {K : PySem.W.Frag} {mg : Str → Option Value} {C T0 : Addr}
theorem all_ok {fa : Addr} (hfa : mg "law" = some (.ref fa)) (B : Bi mg) (W : Wd K mg) (F4 : Cf K mg C) (init : ∃ f fd, Mk K C f ∧ FunD K "__init__" "Moves.__init__" (defArgs (mth 0)) (defBody (mth 0)) (defScope (mth 0)) [.ref T0] [] f fd)
    (t0 : SqT K (fun _ => none) T0 []) (below : Below K C) (eqc : ∃ f N, EqC K C f N ∧ PySem.W.findIn K (.ref C) "__eq__" = some (some (.ref f))) (addc : AddC K C)
    (g12 : Gf K mg "is_integer" sInt)
    (g13 : Gf K mg "is_count" sCnt)
    (g14 : Gf K mg "is_name" sNm)
    (g15 : Gf K mg "is_good" sGd)
    (g16 : Gf K mg "is_list" sLs)
    (g17 : Gf K mg "is_triple" sTr)
    (g40 : Gf K mg "is_among" sAmo)
    (g21 : Gf K mg "_is_one_of" sEn)
    (g22 : Gf K mg "_is_condition" sCo)
    (g23 : Gf K mg "_check_goods" sCg)
    (g24 : Gf K mg "_check_conditions" sCc)
    (g27 : Gf K mg "_law_pot" sPot)
    (g28 : Gf K mg "_law_draw" sDraw)
    (g29 : Gf K mg "_law_pick" sPick)
    (g30 : Gf K mg "_law_scene" sScene)
    (g31 : Gf K mg "_law_mixed" sMixed)
    (g32 : Gf K mg "_law_is" sIs)
    (g33 : Gf K mg "_law_equal_right" sEq)
    (g34 : Gf K mg "_law_changed_right" sCh)
    (g35 : Gf K mg "_law_right" sRt)
    (g36 : Gf K mg "law" sLaw)
    (m1 : Mf K C "goods" "Moves.goods" (mth 1))
    (m2 : Mf K C "conditions" "Moves.conditions" (mth 2))
    (m3 : Mf K C "_check_position" "Moves._check_position" (mth 3))
    (m4 : Mf K C "without" "Moves.without" (mth 4))
    (m5 : Mf K C "tightened" "Moves.tightened" (mth 5))
    (m6 : Mf K C "__add__" "Moves.__add__" (mth 6))
    (m7 : Mf K C "__len__" "Moves.__len__" (mth 7))
    (m8 : Mf K C "__eq__" "Moves.__eq__" (mth 8))
    (m9 : Mf K C "__repr__" "Moves.__repr__" (mth 9)) :
    ∃ fd : FuncData, (∀ (s : Shared) (u : Value), BindsTo s fd ⟨[u], []⟩ [("_law_script", u)]) ∧ ∀ base : Heap, K.In base → base.Ns mainGlobals mg → FnG P w K mg base CX0 12 fa fd ["_law_script"] (spLaw K) := by
  obtain ⟨fL, fdL, aL, uL⟩ := g36.ex
  obtain rfl : fL = fa := by
    rw [aL] at hfa
    cases hfa
    rfl
  have bL : ∀ (s : Shared) (u : Value), BindsTo s fdL ⟨[u], []⟩ [("_law_script", u)] := by
    obtain ⟨oc, od, kV, doc, pm, an, cdv, ct, osl, rfl, lk, hcd⟩ := uL.ex
    exact fun s u => .of_eq rfl
  refine ⟨fdL, bL, fun base _ _ => ?_⟩
  have h12 : Has P w K mg base "is_integer" 1 ["value"] spInt := g12.has (fun _ _ _ _ _ _ us hl => match us, hl with | [_], _ => rfl) fun f fd F => ok_int F B
  have h13 : Has P w K mg base "is_count" 2 ["value"] spCnt := g13.has (fun _ _ _ _ _ _ us hl => match us, hl with | [_], _ => rfl) fun f fd F => ok_cnt F h12
  have h14 : Has P w K mg base "is_name" 1 ["value"] spNm := g14.has (fun _ _ _ _ _ _ us hl => match us, hl with | [_], _ => rfl) fun f fd F => ok_name F B W
  have h15 : Has P w K mg base "is_good" 2 ["value"] spNm := g15.has (fun _ _ _ _ _ _ us hl => match us, hl with | [_], _ => rfl) fun f fd F => ok_good F W h14
  have h16 : Has P w K mg base "is_list" 1 ["value"] (spLs K) := g16.has (fun _ _ _ _ _ _ us hl => match us, hl with | [_], _ => rfl) fun f fd F => ok_list F B
  have h17 : Has P w K mg base "is_triple" 1 ["value"] spTr := g17.has (fun _ _ _ _ _ _ us hl => match us, hl with | [_], _ => rfl) fun f fd F => ok_triple F B
  have h40 : Has P w K mg base "is_among" 1 ["names", "value"] (spAmo K) := g40.has (fun _ _ _ _ _ _ us hl => match us, hl with | [_, _], _ => rfl) fun f fd F => ok_am F B
  have h21 : Has P w K mg base "_is_one_of" 2 ["goods", "value"] (spEn K) := g21.has (fun _ _ _ _ _ _ us hl => match us, hl with | [_, _], _ => rfl) fun f fd F => ok_end F h40
  have h22 : Has P w K mg base "_is_condition" 3 ["goods", "value"] (spCo K) := g22.has (fun _ _ _ _ _ _ us hl => match us, hl with | [_, _], _ => rfl) fun f fd F => ok_cond F h17 h21 h12
  have h23 : Has P w K mg base "_check_goods" 3 ["goods"] (spCg K) := g23.has (fun _ _ _ _ _ _ us hl => match us, hl with | [_], _ => rfl) fun f fd F => ok_cg F B h16 h15
  have h24 : Has P w K mg base "_check_conditions" 4 ["goods", "conditions"] (spCc K) := g24.has (fun _ _ _ _ _ _ us hl => match us, hl with | [_, _], _ => rfl) fun f fd F => ok_cc F B h16 h22
  obtain ⟨fI, fdI, mk, uI⟩ := init
  have FI : FnG P w K mg base CX0 6 fI fdI ["self", "goods", "conditions"] (spInit K C) := (ok_init uI B F4 h23 h24).up (by decide)
  have c2 : HasC P w K mg base C 6 ["self", "goods", "conditions"] (spInit K C) 2 [] (fun vs _ => vs) := by
    obtain ⟨g1, b⟩ := kbDef (ps := ["self", "goods", "conditions"]) uI 3 [] (fun vs _ _ => vs) (by simp) (fun r _ _ => r) fun T kV doc pm an cdv ct us its ws l1 l2 l3 => match us, its, ws, l1, l2, l3 with | [_, _, _], [_], [], _, _, _ => ⟨_, rfl, rfl⟩
    exact ⟨fI, fdI, g1, mk, FI, b⟩
  have c1 : HasC P w K mg base C 6 ["self", "goods", "conditions"] (spInit K C) 1 [] (fun vs _ => vs ++ [.ref T0]) := by
    obtain ⟨g1, b⟩ := kbDef (ps := ["self", "goods", "conditions"]) uI 2 [] (fun vs ds _ => vs ++ ds) (by simp) (fun r rd _ => r.append rd) fun T kV doc pm an cdv ct us its ws l1 l2 l3 => match us, its, ws, l1, l2, l3 with | [_, _], [_], [], _, _, _ => ⟨_, rfl, rfl⟩
    exact ⟨fI, fdI, g1, mk, FI, b⟩
  have cK : HasC P w K mg base C 6 ["self", "goods", "conditions"] (spInit K C) 0 ["conditions", "goods"] (fun vs zs => vs ++ zs.reverse) := by
    obtain ⟨g1, b⟩ := kbDef (ps := ["self", "goods", "conditions"]) uI 1 ["conditions", "goods"] (fun vs _ zs => vs ++ zs.reverse) (by simp) (fun r _ rz => r.append rz.reverse) fun T kV doc pm an cdv ct us its ws l1 l2 l3 => match us, its, ws, l1, l2, l3 with | [_], [_], [_, _], _, _, _ => ⟨_, rfl, rfl⟩
    exact ⟨fI, fdI, g1, mk, FI, b⟩
  have hP : HasM P w K mg base C "_check_position" 3 ["self", "position"] (spPs C) := m3.has (fun _ _ _ _ _ _ us hl => match us, hl with | [_, _], _ => rfl) fun f fd F => ok_pos F B F4 h13
  have hC : HasM P w K mg base C "conditions" 1 ["self"] (spConds C) := m2.has (fun _ _ _ _ _ _ us hl => match us, hl with | [_], _ => rfl) fun f fd F => ok_conds F B F4
  have hW : HasMK P w K mg base C "without" 8 ["self", "position"] (spWithout C) 1 ["position"] (fun vs zs => vs ++ zs) := by
    obtain ⟨f, fd, a, u⟩ := m4.ex
    exact ⟨f, fd, _, a, ok_wo u B F4 hP c2, kbNames u 1 ["position"] (fun vs zs => vs ++ zs) (fun r rz => r.append rz) fun _ _ _ _ _ _ us ws l1 l2 => match us, ws, l1, l2 with | [_], [_], _, _ => rfl⟩
  have M : Mv P w K mg base C :=
    { gM := F4.gM, cl := F4.cl, mk2 := c2, mk1 := ⟨T0, t0, c1⟩, mkK := cK
      goods := m1.has (fun _ _ _ _ _ _ us hl => match us, hl with | [_], _ => rfl) fun f fd F => ok_goods F B F4
      conds := hC
      len := m7.has (fun _ _ _ _ _ _ us hl => match us, hl with | [_], _ => rfl) fun f fd F => ok_len F B F4
      repr := m9.has (fun _ _ _ _ _ _ us hl => match us, hl with | [_], _ => rfl) fun f fd F => ok_repr F B F4
      eq := m8.has (fun _ _ _ _ _ _ us hl => match us, hl with | [_, _], _ => rfl) fun f fd F => KM.ok_eq F B F4
      add := m6.has (fun _ _ _ _ _ _ us hl => match us, hl with | [_, _], _ => rfl) fun f fd F => ok_add F B F4 h22 c2
      wo := hW
      ti := m5.has (fun _ _ _ _ _ _ us hl => match us, hl with | [_, _], _ => rfl) fun f fd F => ok_ti F B F4 hP hC c2
      below := below, eqc := eqc, addc := addc }
  have l27 : Has P w K mg base "_law_pot" 1 ["_law_script", "_law_k"] (spPot K) := g27.has (fun _ _ _ _ _ _ us hl => match us, hl with | [_, _], _ => rfl) fun f fd F => ok_pot F B
  have l28 : Has P w K mg base "_law_draw" 1 ["_law_pot_here", "_law_many"] spDraw := g28.has (fun _ _ _ _ _ _ us hl => match us, hl with | [_, _], _ => rfl) fun f fd F => ok_draw F B
  have l29 : Has P w K mg base "_law_pick" 2 ["_law_pot_here", "_law_some"] (spPick K) := g29.has (fun _ _ _ _ _ _ us hl => match us, hl with | [_, _], _ => rfl) fun f fd F => ok_pick F B l28
  have l30 : Has P w K mg base "_law_scene" 3 ["_law_pot_here", "_law_most"] spScene := g30.has (fun _ _ _ _ _ _ us hl => match us, hl with | [_, _], _ => rfl) fun f fd F => ok_scene F B l28 l29
  have l31 : Has P w K mg base "_law_mixed" 2 ["_law_pot_here", "_law_some"] (spMixed K) := g31.has (fun _ _ _ _ _ _ us hl => match us, hl with | [_, _], _ => rfl) fun f fd F => ok_mixed F B l28
  have l32 : Has P w K mg base "_law_is" 9 ["_law_moves", "_law_goods", "_law_rows"] (spIs C) := g32.has (fun _ _ _ _ _ _ us hl => match us, hl with | [_, _, _], _ => rfl) fun f fd F => ok_is F B M
  have l33 : Has P w K mg base "_law_equal_right" 9 ["_law_pot_here", "_law_moves", "_law_goods", "_law_rows"] (spEqR C) := g33.has (fun _ _ _ _ _ _ us hl => match us, hl with | [_, _, _, _], _ => rfl) fun f fd F => ok_eqr F B M l31
  have l34 : Has P w K mg base "_law_changed_right" 10 ["_law_pot_here", "_law_moves", "_law_goods", "_law_rows"] (spChR C) := g34.has (fun _ _ _ _ _ _ us hl => match us, hl with | [_, _, _, _], _ => rfl) fun f fd F => ok_chr F B M l28 l29 l32
  have l35 : Has P w K mg base "_law_right" 11 ["_law_pot_here"] spRight := g35.has (fun _ _ _ _ _ _ us hl => match us, hl with | [_], _ => rfl) fun f fd F => ok_right F B M l30 l28 l31 l32 l33 l34
  exact ok_law uL B l27 l35
end
end KM

set_option Elab.async false
set_option linter.all false
set_option maxRecDepth 100000
set_option maxHeartbeats 4000000
namespace KM
open PySem PySem.Spec PyProof.Rows L2 GL
theorem kit_no {K : PySem.W.Frag} {C : Addr} {T : String} (ic : PySem.W.isClsIn K C = true) (ty : PySem.W.typeIn K (.ref C) = some (.type "type")) (s : PySem.W.subIn K (.type T) (.ref C) = some false) :
    PySem.W.kitOne K (.type T) (.ref C) = some false := by
  unfold PySem.W.kitOne
  rw [if_neg (by intro z; cases (beq_iff_eq.mp z))]
  unfold PySem.W.kitCls
  dsimp only
  rw [if_pos (by rw [ty]; unfold PySem.W.isClsIn at ic; rw [ic]; rfl), s]
theorem flat {P : Program} {w : World} {K : PySem.W.Frag} {h : Heap} {mg : Str → Option Value} {fa : Addr} {zL : Str} {tL t8 t4 t24 : Tok} {aN T0 TD C fI fQ NQ : Addr} {oC : Obj} {esQ : Array DictEntry} {epQ : Nat} {dQ : Option Addr} {slQ : Array (Option Value)} {cQ cN cT0 cTD ocI kVI dcI pmI cdI ctI : Value} {odN odT0 odTD odI anI : Option Addr} {itsN itsT0 itsTD : Array Value} {nN nT0 nTD : Nat} {slN slT0 slTD slI : Array (Option Value)}
    {f12 : Addr} {oc12 kV12 dc12 pm12 cd12 ct12 : Value} {od12 an12 : Option Addr} {osl12 : Array (Option Value)}
    {f13 : Addr} {oc13 kV13 dc13 pm13 cd13 ct13 : Value} {od13 an13 : Option Addr} {osl13 : Array (Option Value)}
    {f14 : Addr} {oc14 kV14 dc14 pm14 cd14 ct14 : Value} {od14 an14 : Option Addr} {osl14 : Array (Option Value)}
    {f15 : Addr} {oc15 kV15 dc15 pm15 cd15 ct15 : Value} {od15 an15 : Option Addr} {osl15 : Array (Option Value)}
    {f16 : Addr} {oc16 kV16 dc16 pm16 cd16 ct16 : Value} {od16 an16 : Option Addr} {osl16 : Array (Option Value)}
    {f17 : Addr} {oc17 kV17 dc17 pm17 cd17 ct17 : Value} {od17 an17 : Option Addr} {osl17 : Array (Option Value)}
    {f40 : Addr} {oc40 kV40 dc40 pm40 cd40 ct40 : Value} {od40 an40 : Option Addr} {osl40 : Array (Option Value)}
    {f21 : Addr} {oc21 kV21 dc21 pm21 cd21 ct21 : Value} {od21 an21 : Option Addr} {osl21 : Array (Option Value)}
    {f22 : Addr} {oc22 kV22 dc22 pm22 cd22 ct22 : Value} {od22 an22 : Option Addr} {osl22 : Array (Option Value)}
    {f23 : Addr} {oc23 kV23 dc23 pm23 cd23 ct23 : Value} {od23 an23 : Option Addr} {osl23 : Array (Option Value)}
    {f24 : Addr} {oc24 kV24 dc24 pm24 cd24 ct24 : Value} {od24 an24 : Option Addr} {osl24 : Array (Option Value)}
    {f27 : Addr} {oc27 kV27 dc27 pm27 cd27 ct27 : Value} {od27 an27 : Option Addr} {osl27 : Array (Option Value)}
    {f28 : Addr} {oc28 kV28 dc28 pm28 cd28 ct28 : Value} {od28 an28 : Option Addr} {osl28 : Array (Option Value)}
    {f29 : Addr} {oc29 kV29 dc29 pm29 cd29 ct29 : Value} {od29 an29 : Option Addr} {osl29 : Array (Option Value)}
    {f30 : Addr} {oc30 kV30 dc30 pm30 cd30 ct30 : Value} {od30 an30 : Option Addr} {osl30 : Array (Option Value)}
    {f31 : Addr} {oc31 kV31 dc31 pm31 cd31 ct31 : Value} {od31 an31 : Option Addr} {osl31 : Array (Option Value)}
    {f32 : Addr} {oc32 kV32 dc32 pm32 cd32 ct32 : Value} {od32 an32 : Option Addr} {osl32 : Array (Option Value)}
    {f33 : Addr} {oc33 kV33 dc33 pm33 cd33 ct33 : Value} {od33 an33 : Option Addr} {osl33 : Array (Option Value)}
    {f34 : Addr} {oc34 kV34 dc34 pm34 cd34 ct34 : Value} {od34 an34 : Option Addr} {osl34 : Array (Option Value)}
    {f35 : Addr} {oc35 kV35 dc35 pm35 cd35 ct35 : Value} {od35 an35 : Option Addr} {osl35 : Array (Option Value)}
    {f36 : Addr} {oc36 kV36 dc36 pm36 cd36 ct36 : Value} {od36 an36 : Option Addr} {osl36 : Array (Option Value)}
    {f101 : Addr} {oc101 kV101 dc101 pm101 cd101 ct101 : Value} {od101 an101 : Option Addr} {osl101 : Array (Option Value)}
    {f102 : Addr} {oc102 kV102 dc102 pm102 cd102 ct102 : Value} {od102 an102 : Option Addr} {osl102 : Array (Option Value)}
    {f103 : Addr} {oc103 kV103 dc103 pm103 cd103 ct103 : Value} {od103 an103 : Option Addr} {osl103 : Array (Option Value)}
    {f104 : Addr} {oc104 kV104 dc104 pm104 cd104 ct104 : Value} {od104 an104 : Option Addr} {osl104 : Array (Option Value)}
    {f105 : Addr} {oc105 kV105 dc105 pm105 cd105 ct105 : Value} {od105 an105 : Option Addr} {osl105 : Array (Option Value)}
    {f106 : Addr} {oc106 kV106 dc106 pm106 cd106 ct106 : Value} {od106 an106 : Option Addr} {osl106 : Array (Option Value)}
    {f107 : Addr} {oc107 kV107 dc107 pm107 cd107 ct107 : Value} {od107 an107 : Option Addr} {osl107 : Array (Option Value)}
    {f108 : Addr} {oc108 kV108 dc108 pm108 cd108 ct108 : Value} {od108 an108 : Option Addr} {osl108 : Array (Option Value)}
    {f109 : Addr} {oc109 kV109 dc109 pm109 cd109 ct109 : Value} {od109 an109 : Option Addr} {osl109 : Array (Option Value)}
    (X : K.In h) (G : h.Ns mainGlobals mg) (hfa : mg "law" = some (.ref fa))
    (b_len : PySem.W.nsIn K mainGlobals "len" = some none)
    (b_divmod : PySem.W.nsIn K mainGlobals "divmod" = some none)
    (b_int : PySem.W.nsIn K mainGlobals "int" = some none)
    (b_abs : PySem.W.nsIn K mainGlobals "abs" = some none)
    (b_max : PySem.W.nsIn K mainGlobals "max" = some none)
    (b_min : PySem.W.nsIn K mainGlobals "min" = some none)
    (b_range : PySem.W.nsIn K mainGlobals "range" = some none)
    (b_list : PySem.W.nsIn K mainGlobals "list" = some none)
    (b_tuple : PySem.W.nsIn K mainGlobals "tuple" = some none)
    (b_repr : PySem.W.nsIn K mainGlobals "repr" = some none)
    (b_sorted : PySem.W.nsIn K mainGlobals "sorted" = some none)
    (b_enumerate : PySem.W.nsIn K mainGlobals "enumerate" = some none)
    (b_all : PySem.W.nsIn K mainGlobals "all" = some none)
    (b_any : PySem.W.nsIn K mainGlobals "any" = some none)
    (b_isinstance : PySem.W.nsIn K mainGlobals "isinstance" = some none)
    (b_str : PySem.W.nsIn K mainGlobals "str" = some none)
    (b_bool : PySem.W.nsIn K mainGlobals "bool" = some none)
    (aL : PySem.W.nsIn K mainGlobals "LETTERS" = some (some (.str zL tL)))
    (eL : zL = abc)
    (a8 : PySem.W.nsIn K mainGlobals "MOST_LETTERS" = some (some (.int 8 t8)))
    (aN_ : PySem.W.nsIn K mainGlobals "NO_GOODS" = some (some (.ref aN)))
    (lN : K.lookup aN = some ⟨cN, odN, .seq itsN nN, slN⟩)
    (ecN : cN = .type "tuple")
    (szN : itsN.size ≤ sizeLine)
    (vN : Vals (kept.map V.str) itsN.toList)
    (aC : PySem.W.nsIn K mainGlobals "Moves" = some (some (.ref C)))
    (pg : PySem.W.plainGet K C Str.empty = true)
    (hd : PySem.W.hasDictIn K C = true)
    (po : PySem.W.plainOver K C = true)
    (sa : PySem.W.findIn K (.ref C) "__setattr__" = some (some (.builtin "object.__setattr__")))
    (nG : PySem.W.findIn K (.ref C) "_goods" = some none)
    (nK : PySem.W.findIn K (.ref C) "_conditions" = some none)
    (hc : PySem.W.findIn K (.ref C) "__class__" = some (some (.builtin "object.__class__")))
    (hn : PySem.W.specialIn K (.builtin "object.__class__") "__get__" = some (some (.builtin "getset_descriptor.__get__")))
    (ht : PySem.W.takesIn K (.builtin "object.__class__") = some true)
    (hm : PySem.W.mroIn K C (.type "object") = some true)
    (icC : PySem.W.isClsIn K C = true)
    (tyC : PySem.W.typeIn K (.ref C) = some (.type "type"))
    (a4 : PySem.W.nsIn K mainGlobals "MOST_GOODS" = some (some (.int 4 t4)))
    (a24 : PySem.W.nsIn K mainGlobals "MOST_CONDITIONS" = some (some (.int 24 t24)))
    (mkI : PySem.W.makesIn K C = true)
    (aI : PySem.W.findIn K (.ref C) "__init__" = some (some (.ref fI)))
    (iI : PySem.W.isFn K (.ref fI) = true)
    (kC : PySem.W.keepIn K (.ref C) = true)
    (lI : K.lookup fI = some ⟨ocI, odI, .func (PySem.W.fnOf "__init__" "Moves.__init__" (defArgs (mth 0)) (defBody (mth 0)) (defScope (mth 0)) (.ref TD) kVI dcI pmI anI cdI ctI), slI⟩)
    (cI : PySem.W.codeIn K cdI "Moves.__init__" = true)
    (kI : PySem.W.keepIn K (.ref fI) = true)
    (lTD : K.lookup TD = some ⟨cTD, odTD, .seq itsTD nTD, slTD⟩)
    (eTD : itsTD = #[.ref T0])
    (lT0 : K.lookup T0 = some ⟨cT0, odT0, .seq itsT0 nT0, slT0⟩)
    (eT0 : itsT0 = #[])
    (ecT0 : cT0 = .type "tuple")
    (sl_ : PySem.W.subIn K (.type "list") (.ref C) = some false)
    (st_ : PySem.W.subIn K (.type "tuple") (.ref C) = some false)
    (sn_ : PySem.W.subIn K (.type "NoneType") (.ref C) = some false)
    (si_ : PySem.W.subIn K (.type "int") (.ref C) = some false)
    (ss_ : PySem.W.subIn K (.type "str") (.ref C) = some false)
    (fq : PySem.W.findIn K (.ref C) "__eq__" = some (some (.ref fQ)))
    (lC : K.lookup C = some oC)
    (eC : ∃ nm q bs hd sn sub ab col dd k0 k1 k2 k3 k5 id, oC = excClassObj nm q C NQ bs [.type "object"] hd sn sub ab col dd k0 k1 k2 k3 k5 id)
    (lNQ : K.lookup NQ = some ⟨cQ, dQ, .dict esQ epQ, slQ⟩)
    (eNQ : (esQ.toList.all fun e => match e.key with | .str _ _ => true | _ => false) = true)
    (eqN : PySem.W.nsIn K NQ "__eq__" = some (some (.ref fQ)))
    (neN : PySem.W.nsIn K NQ "__ne__" = some none)
    (fnQ : PySem.W.typeIn K (.ref fQ) = some (.type "function"))
    (fst : PySem.W.selfFirst K C = true)
    (nr : PySem.W.findIn K (.ref C) (dunderR "add") = some none)
    (t1 : PySem.W.findIn K (.type "tuple") (PySem.dunder "add") = some (some (.builtin "tuple.__add__")))
    (t2 : PySem.W.findIn K (.type "tuple") (dunderR "add") = some none)
    (a_12 : PySem.W.nsIn K mainGlobals "is_integer" = some (some (.ref f12)))
    (l_12 : K.lookup f12 = some ⟨oc12, od12, .func (PySem.W.fnOf "is_integer" "is_integer" (defArgs sInt) (defBody sInt) (defScope sInt) .none kV12 dc12 pm12 an12 cd12 ct12), osl12⟩)
    (c_12 : PySem.W.codeIn K cd12 "is_integer" = true)
    (k_12 : PySem.W.keepIn K (.ref f12) = true)
    (a_13 : PySem.W.nsIn K mainGlobals "is_count" = some (some (.ref f13)))
    (l_13 : K.lookup f13 = some ⟨oc13, od13, .func (PySem.W.fnOf "is_count" "is_count" (defArgs sCnt) (defBody sCnt) (defScope sCnt) .none kV13 dc13 pm13 an13 cd13 ct13), osl13⟩)
    (c_13 : PySem.W.codeIn K cd13 "is_count" = true)
    (k_13 : PySem.W.keepIn K (.ref f13) = true)
    (a_14 : PySem.W.nsIn K mainGlobals "is_name" = some (some (.ref f14)))
    (l_14 : K.lookup f14 = some ⟨oc14, od14, .func (PySem.W.fnOf "is_name" "is_name" (defArgs sNm) (defBody sNm) (defScope sNm) .none kV14 dc14 pm14 an14 cd14 ct14), osl14⟩)
    (c_14 : PySem.W.codeIn K cd14 "is_name" = true)
    (k_14 : PySem.W.keepIn K (.ref f14) = true)
    (a_15 : PySem.W.nsIn K mainGlobals "is_good" = some (some (.ref f15)))
    (l_15 : K.lookup f15 = some ⟨oc15, od15, .func (PySem.W.fnOf "is_good" "is_good" (defArgs sGd) (defBody sGd) (defScope sGd) .none kV15 dc15 pm15 an15 cd15 ct15), osl15⟩)
    (c_15 : PySem.W.codeIn K cd15 "is_good" = true)
    (k_15 : PySem.W.keepIn K (.ref f15) = true)
    (a_16 : PySem.W.nsIn K mainGlobals "is_list" = some (some (.ref f16)))
    (l_16 : K.lookup f16 = some ⟨oc16, od16, .func (PySem.W.fnOf "is_list" "is_list" (defArgs sLs) (defBody sLs) (defScope sLs) .none kV16 dc16 pm16 an16 cd16 ct16), osl16⟩)
    (c_16 : PySem.W.codeIn K cd16 "is_list" = true)
    (k_16 : PySem.W.keepIn K (.ref f16) = true)
    (a_17 : PySem.W.nsIn K mainGlobals "is_triple" = some (some (.ref f17)))
    (l_17 : K.lookup f17 = some ⟨oc17, od17, .func (PySem.W.fnOf "is_triple" "is_triple" (defArgs sTr) (defBody sTr) (defScope sTr) .none kV17 dc17 pm17 an17 cd17 ct17), osl17⟩)
    (c_17 : PySem.W.codeIn K cd17 "is_triple" = true)
    (k_17 : PySem.W.keepIn K (.ref f17) = true)
    (a_40 : PySem.W.nsIn K mainGlobals "is_among" = some (some (.ref f40)))
    (l_40 : K.lookup f40 = some ⟨oc40, od40, .func (PySem.W.fnOf "is_among" "is_among" (defArgs sAmo) (defBody sAmo) (defScope sAmo) .none kV40 dc40 pm40 an40 cd40 ct40), osl40⟩)
    (c_40 : PySem.W.codeIn K cd40 "is_among" = true)
    (k_40 : PySem.W.keepIn K (.ref f40) = true)
    (a_21 : PySem.W.nsIn K mainGlobals "_is_one_of" = some (some (.ref f21)))
    (l_21 : K.lookup f21 = some ⟨oc21, od21, .func (PySem.W.fnOf "_is_one_of" "_is_one_of" (defArgs sEn) (defBody sEn) (defScope sEn) .none kV21 dc21 pm21 an21 cd21 ct21), osl21⟩)
    (c_21 : PySem.W.codeIn K cd21 "_is_one_of" = true)
    (k_21 : PySem.W.keepIn K (.ref f21) = true)
    (a_22 : PySem.W.nsIn K mainGlobals "_is_condition" = some (some (.ref f22)))
    (l_22 : K.lookup f22 = some ⟨oc22, od22, .func (PySem.W.fnOf "_is_condition" "_is_condition" (defArgs sCo) (defBody sCo) (defScope sCo) .none kV22 dc22 pm22 an22 cd22 ct22), osl22⟩)
    (c_22 : PySem.W.codeIn K cd22 "_is_condition" = true)
    (k_22 : PySem.W.keepIn K (.ref f22) = true)
    (a_23 : PySem.W.nsIn K mainGlobals "_check_goods" = some (some (.ref f23)))
    (l_23 : K.lookup f23 = some ⟨oc23, od23, .func (PySem.W.fnOf "_check_goods" "_check_goods" (defArgs sCg) (defBody sCg) (defScope sCg) .none kV23 dc23 pm23 an23 cd23 ct23), osl23⟩)
    (c_23 : PySem.W.codeIn K cd23 "_check_goods" = true)
    (k_23 : PySem.W.keepIn K (.ref f23) = true)
    (a_24 : PySem.W.nsIn K mainGlobals "_check_conditions" = some (some (.ref f24)))
    (l_24 : K.lookup f24 = some ⟨oc24, od24, .func (PySem.W.fnOf "_check_conditions" "_check_conditions" (defArgs sCc) (defBody sCc) (defScope sCc) .none kV24 dc24 pm24 an24 cd24 ct24), osl24⟩)
    (c_24 : PySem.W.codeIn K cd24 "_check_conditions" = true)
    (k_24 : PySem.W.keepIn K (.ref f24) = true)
    (a_27 : PySem.W.nsIn K mainGlobals "_law_pot" = some (some (.ref f27)))
    (l_27 : K.lookup f27 = some ⟨oc27, od27, .func (PySem.W.fnOf "_law_pot" "_law_pot" (defArgs sPot) (defBody sPot) (defScope sPot) .none kV27 dc27 pm27 an27 cd27 ct27), osl27⟩)
    (c_27 : PySem.W.codeIn K cd27 "_law_pot" = true)
    (k_27 : PySem.W.keepIn K (.ref f27) = true)
    (a_28 : PySem.W.nsIn K mainGlobals "_law_draw" = some (some (.ref f28)))
    (l_28 : K.lookup f28 = some ⟨oc28, od28, .func (PySem.W.fnOf "_law_draw" "_law_draw" (defArgs sDraw) (defBody sDraw) (defScope sDraw) .none kV28 dc28 pm28 an28 cd28 ct28), osl28⟩)
    (c_28 : PySem.W.codeIn K cd28 "_law_draw" = true)
    (k_28 : PySem.W.keepIn K (.ref f28) = true)
    (a_29 : PySem.W.nsIn K mainGlobals "_law_pick" = some (some (.ref f29)))
    (l_29 : K.lookup f29 = some ⟨oc29, od29, .func (PySem.W.fnOf "_law_pick" "_law_pick" (defArgs sPick) (defBody sPick) (defScope sPick) .none kV29 dc29 pm29 an29 cd29 ct29), osl29⟩)
    (c_29 : PySem.W.codeIn K cd29 "_law_pick" = true)
    (k_29 : PySem.W.keepIn K (.ref f29) = true)
    (a_30 : PySem.W.nsIn K mainGlobals "_law_scene" = some (some (.ref f30)))
    (l_30 : K.lookup f30 = some ⟨oc30, od30, .func (PySem.W.fnOf "_law_scene" "_law_scene" (defArgs sScene) (defBody sScene) (defScope sScene) .none kV30 dc30 pm30 an30 cd30 ct30), osl30⟩)
    (c_30 : PySem.W.codeIn K cd30 "_law_scene" = true)
    (k_30 : PySem.W.keepIn K (.ref f30) = true)
    (a_31 : PySem.W.nsIn K mainGlobals "_law_mixed" = some (some (.ref f31)))
    (l_31 : K.lookup f31 = some ⟨oc31, od31, .func (PySem.W.fnOf "_law_mixed" "_law_mixed" (defArgs sMixed) (defBody sMixed) (defScope sMixed) .none kV31 dc31 pm31 an31 cd31 ct31), osl31⟩)
    (c_31 : PySem.W.codeIn K cd31 "_law_mixed" = true)
    (k_31 : PySem.W.keepIn K (.ref f31) = true)
    (a_32 : PySem.W.nsIn K mainGlobals "_law_is" = some (some (.ref f32)))
    (l_32 : K.lookup f32 = some ⟨oc32, od32, .func (PySem.W.fnOf "_law_is" "_law_is" (defArgs sIs) (defBody sIs) (defScope sIs) .none kV32 dc32 pm32 an32 cd32 ct32), osl32⟩)
    (c_32 : PySem.W.codeIn K cd32 "_law_is" = true)
    (k_32 : PySem.W.keepIn K (.ref f32) = true)
    (a_33 : PySem.W.nsIn K mainGlobals "_law_equal_right" = some (some (.ref f33)))
    (l_33 : K.lookup f33 = some ⟨oc33, od33, .func (PySem.W.fnOf "_law_equal_right" "_law_equal_right" (defArgs sEq) (defBody sEq) (defScope sEq) .none kV33 dc33 pm33 an33 cd33 ct33), osl33⟩)
    (c_33 : PySem.W.codeIn K cd33 "_law_equal_right" = true)
    (k_33 : PySem.W.keepIn K (.ref f33) = true)
    (a_34 : PySem.W.nsIn K mainGlobals "_law_changed_right" = some (some (.ref f34)))
    (l_34 : K.lookup f34 = some ⟨oc34, od34, .func (PySem.W.fnOf "_law_changed_right" "_law_changed_right" (defArgs sCh) (defBody sCh) (defScope sCh) .none kV34 dc34 pm34 an34 cd34 ct34), osl34⟩)
    (c_34 : PySem.W.codeIn K cd34 "_law_changed_right" = true)
    (k_34 : PySem.W.keepIn K (.ref f34) = true)
    (a_35 : PySem.W.nsIn K mainGlobals "_law_right" = some (some (.ref f35)))
    (l_35 : K.lookup f35 = some ⟨oc35, od35, .func (PySem.W.fnOf "_law_right" "_law_right" (defArgs sRt) (defBody sRt) (defScope sRt) .none kV35 dc35 pm35 an35 cd35 ct35), osl35⟩)
    (c_35 : PySem.W.codeIn K cd35 "_law_right" = true)
    (k_35 : PySem.W.keepIn K (.ref f35) = true)
    (a_36 : PySem.W.nsIn K mainGlobals "law" = some (some (.ref f36)))
    (l_36 : K.lookup f36 = some ⟨oc36, od36, .func (PySem.W.fnOf "law" "law" (defArgs sLaw) (defBody sLaw) (defScope sLaw) .none kV36 dc36 pm36 an36 cd36 ct36), osl36⟩)
    (c_36 : PySem.W.codeIn K cd36 "law" = true)
    (k_36 : PySem.W.keepIn K (.ref f36) = true)
    (a_101 : PySem.W.findIn K (.ref C) "goods" = some (some (.ref f101)))
    (i_101 : PySem.W.isFn K (.ref f101) = true)
    (l_101 : K.lookup f101 = some ⟨oc101, od101, .func (PySem.W.fnOf "goods" "Moves.goods" (defArgs (mth 1)) (defBody (mth 1)) (defScope (mth 1)) .none kV101 dc101 pm101 an101 cd101 ct101), osl101⟩)
    (c_101 : PySem.W.codeIn K cd101 "Moves.goods" = true)
    (k_101 : PySem.W.keepIn K (.ref f101) = true)
    (a_102 : PySem.W.findIn K (.ref C) "conditions" = some (some (.ref f102)))
    (i_102 : PySem.W.isFn K (.ref f102) = true)
    (l_102 : K.lookup f102 = some ⟨oc102, od102, .func (PySem.W.fnOf "conditions" "Moves.conditions" (defArgs (mth 2)) (defBody (mth 2)) (defScope (mth 2)) .none kV102 dc102 pm102 an102 cd102 ct102), osl102⟩)
    (c_102 : PySem.W.codeIn K cd102 "Moves.conditions" = true)
    (k_102 : PySem.W.keepIn K (.ref f102) = true)
    (a_103 : PySem.W.findIn K (.ref C) "_check_position" = some (some (.ref f103)))
    (i_103 : PySem.W.isFn K (.ref f103) = true)
    (l_103 : K.lookup f103 = some ⟨oc103, od103, .func (PySem.W.fnOf "_check_position" "Moves._check_position" (defArgs (mth 3)) (defBody (mth 3)) (defScope (mth 3)) .none kV103 dc103 pm103 an103 cd103 ct103), osl103⟩)
    (c_103 : PySem.W.codeIn K cd103 "Moves._check_position" = true)
    (k_103 : PySem.W.keepIn K (.ref f103) = true)
    (a_104 : PySem.W.findIn K (.ref C) "without" = some (some (.ref f104)))
    (i_104 : PySem.W.isFn K (.ref f104) = true)
    (l_104 : K.lookup f104 = some ⟨oc104, od104, .func (PySem.W.fnOf "without" "Moves.without" (defArgs (mth 4)) (defBody (mth 4)) (defScope (mth 4)) .none kV104 dc104 pm104 an104 cd104 ct104), osl104⟩)
    (c_104 : PySem.W.codeIn K cd104 "Moves.without" = true)
    (k_104 : PySem.W.keepIn K (.ref f104) = true)
    (a_105 : PySem.W.findIn K (.ref C) "tightened" = some (some (.ref f105)))
    (i_105 : PySem.W.isFn K (.ref f105) = true)
    (l_105 : K.lookup f105 = some ⟨oc105, od105, .func (PySem.W.fnOf "tightened" "Moves.tightened" (defArgs (mth 5)) (defBody (mth 5)) (defScope (mth 5)) .none kV105 dc105 pm105 an105 cd105 ct105), osl105⟩)
    (c_105 : PySem.W.codeIn K cd105 "Moves.tightened" = true)
    (k_105 : PySem.W.keepIn K (.ref f105) = true)
    (a_106 : PySem.W.findIn K (.ref C) "__add__" = some (some (.ref f106)))
    (i_106 : PySem.W.isFn K (.ref f106) = true)
    (l_106 : K.lookup f106 = some ⟨oc106, od106, .func (PySem.W.fnOf "__add__" "Moves.__add__" (defArgs (mth 6)) (defBody (mth 6)) (defScope (mth 6)) .none kV106 dc106 pm106 an106 cd106 ct106), osl106⟩)
    (c_106 : PySem.W.codeIn K cd106 "Moves.__add__" = true)
    (k_106 : PySem.W.keepIn K (.ref f106) = true)
    (a_107 : PySem.W.findIn K (.ref C) "__len__" = some (some (.ref f107)))
    (i_107 : PySem.W.isFn K (.ref f107) = true)
    (l_107 : K.lookup f107 = some ⟨oc107, od107, .func (PySem.W.fnOf "__len__" "Moves.__len__" (defArgs (mth 7)) (defBody (mth 7)) (defScope (mth 7)) .none kV107 dc107 pm107 an107 cd107 ct107), osl107⟩)
    (c_107 : PySem.W.codeIn K cd107 "Moves.__len__" = true)
    (k_107 : PySem.W.keepIn K (.ref f107) = true)
    (a_108 : PySem.W.findIn K (.ref C) "__eq__" = some (some (.ref f108)))
    (i_108 : PySem.W.isFn K (.ref f108) = true)
    (l_108 : K.lookup f108 = some ⟨oc108, od108, .func (PySem.W.fnOf "__eq__" "Moves.__eq__" (defArgs (mth 8)) (defBody (mth 8)) (defScope (mth 8)) .none kV108 dc108 pm108 an108 cd108 ct108), osl108⟩)
    (c_108 : PySem.W.codeIn K cd108 "Moves.__eq__" = true)
    (k_108 : PySem.W.keepIn K (.ref f108) = true)
    (a_109 : PySem.W.findIn K (.ref C) "__repr__" = some (some (.ref f109)))
    (i_109 : PySem.W.isFn K (.ref f109) = true)
    (l_109 : K.lookup f109 = some ⟨oc109, od109, .func (PySem.W.fnOf "__repr__" "Moves.__repr__" (defArgs (mth 9)) (defBody (mth 9)) (defScope (mth 9)) .none kV109 dc109 pm109 an109 cd109 ct109), osl109⟩)
    (c_109 : PySem.W.codeIn K cd109 "Moves.__repr__" = true)
    (k_109 : PySem.W.keepIn K (.ref f109) = true) :
    ∃ fd : FuncData, (∀ (s : Shared) (u : Value), BindsTo s fd ⟨[u], []⟩ [("_law_script", u)]) ∧ ∀ base : Heap, K.In base → base.Ns mainGlobals mg → FnG P w K mg base CX0 12 fa fd ["_law_script"] (spLaw K) := by
  have no : ∀ {x : Str}, PySem.W.nsIn K mainGlobals x = some none → mg x = none := fun e => PySem.W.mg_none_of X G e
  have is : ∀ {x : Str} {u : Value}, PySem.W.nsIn K mainGlobals x = some (some u) → mg x = some u := fun e => PySem.W.mg_of X G e
  have B : Bi mg := ⟨no b_len, no b_divmod, no b_int, no b_abs, no b_max, no b_min, no b_range, no b_list, no b_tuple, no b_repr, no b_sorted, no b_enumerate, no b_all, no b_any, no b_isinstance, no b_str, no b_bool⟩
  have W : Wd K mg := by
    subst eL
    exact ⟨⟨_, is aL⟩, ⟨_, is a8⟩, aN, is aN_, .inr ⟨_, itsN, nN, lN, ecN, rfl, szN, vN⟩⟩
  have F4 : Cf K mg C := ⟨is aC, ⟨pg, hd, po, sa⟩, nG, nK, hc, hn, ht, hm, kit_no icC tyC sl_, kit_no icC tyC st_, kit_no icC tyC sn_, kit_no icC tyC si_, kit_no icC tyC ss_, ⟨_, is a4⟩, ⟨_, is a24⟩⟩
  have t0 : SqT K (fun _ => none) T0 [] := by
    subst eT0
    exact .inr ⟨_, #[], nT0, lT0, ecT0, rfl, by decide, .nil⟩
  have init : ∃ f fd, Mk K C f ∧ FunD K "__init__" "Moves.__init__" (defArgs (mth 0)) (defBody (mth 0)) (defScope (mth 0)) [.ref T0] [] f fd := by
    subst eTD
    exact ⟨fI, _, ⟨mkI, aI, iI, kC⟩, ⟨_, _, _, _, _, _, _, _, _, _, rfl, lI, cI, .inr ⟨by simp, TD, _, [.ref T0], nTD, rfl, lTD, rfl, .cons rfl .nil⟩, .inl rfl⟩, kI⟩
  have cls : ∃ nm q bs hd sn sub ab col dd k0 k1 k2 k3 k5 id, K.lookup C = some (excClassObj nm q C NQ bs [.type "object"] hd sn sub ab col dd k0 k1 k2 k3 k5 id) := by
    obtain ⟨nm, q, bs, hd, sn, sub, ab, col, dd, k0, k1, k2, k3, k5, id, rfl⟩ := eC
    exact ⟨nm, q, bs, hd, sn, sub, ab, col, dd, k0, k1, k2, k3, k5, id, lC⟩
  have okN : PySem.W.nsOkIn K NQ = true := by
    unfold PySem.W.nsOkIn
    rw [lNQ]
    rw [Array.all_toList] at eNQ
    exact eNQ
  exact all_ok hfa B W F4 init t0 ⟨sl_, st_, sn_, si_, ss_⟩ ⟨fQ, NQ, ⟨cls, okN, eqN, neN, fnQ⟩, fq⟩ ⟨fst, nr, st_, t1, t2⟩
    (gf_mk X G a_12 l_12 c_12 k_12)
    (gf_mk X G a_13 l_13 c_13 k_13)
    (gf_mk X G a_14 l_14 c_14 k_14)
    (gf_mk X G a_15 l_15 c_15 k_15)
    (gf_mk X G a_16 l_16 c_16 k_16)
    (gf_mk X G a_17 l_17 c_17 k_17)
    (gf_mk X G a_40 l_40 c_40 k_40)
    (gf_mk X G a_21 l_21 c_21 k_21)
    (gf_mk X G a_22 l_22 c_22 k_22)
    (gf_mk X G a_23 l_23 c_23 k_23)
    (gf_mk X G a_24 l_24 c_24 k_24)
    (gf_mk X G a_27 l_27 c_27 k_27)
    (gf_mk X G a_28 l_28 c_28 k_28)
    (gf_mk X G a_29 l_29 c_29 k_29)
    (gf_mk X G a_30 l_30 c_30 k_30)
    (gf_mk X G a_31 l_31 c_31 k_31)
    (gf_mk X G a_32 l_32 c_32 k_32)
    (gf_mk X G a_33 l_33 c_33 k_33)
    (gf_mk X G a_34 l_34 c_34 k_34)
    (gf_mk X G a_35 l_35 c_35 k_35)
    (gf_mk X G a_36 l_36 c_36 k_36)
    (mf_mk a_101 i_101 l_101 c_101 k_101)
    (mf_mk a_102 i_102 l_102 c_102 k_102)
    (mf_mk a_103 i_103 l_103 c_103 k_103)
    (mf_mk a_104 i_104 l_104 c_104 k_104)
    (mf_mk a_105 i_105 l_105 c_105 k_105)
    (mf_mk a_106 i_106 l_106 c_106 k_106)
    (mf_mk a_107 i_107 l_107 c_107 k_107)
    (mf_mk a_108 i_108 l_108 c_108 k_108)
    (mf_mk a_109 i_109 l_109 c_109 k_109)
end KM

set_option Elab.async false
set_option linter.all false
set_option maxRecDepth 100000
set_option maxHeartbeats 0
open PySem PySem.W PyProof.Rows L2 GL
theorem PySem.Challenge.cw_lateledger_k51_moves_told_holds : PySem.Challenge.rw_lateledger_k51_moves_told.Holds := by
  w_on; o_law; k_head; (case hw => w_witness2)
  k_fill
  refine GL.walk_g (l := PySem.Challenge.rw_lateledger_k51_moves_told) (n := 63) (k := 12) (x := "_law_script") (sp := KM.spLaw) rfl (by decide) rfl ⟨rfl, by decide, by decide⟩ (fun w h Y => PySem.W.kIn_of Y) ?F (fun _ _ a zs _ hS => ⟨a, zs, rfl, hS, fun _ => rfl⟩)
  case F =>
    intro w mg fa h KX G hmg
    refine' KM.flat KX G hmg ?qb_len ?qb_divmod ?qb_int ?qb_abs ?qb_max ?qb_min ?qb_range ?qb_list ?qb_tuple ?qb_repr ?qb_sorted ?qb_enumerate ?qb_all ?qb_any ?qb_isinstance ?qb_str ?qb_bool ?qaL ?qeL ?qa8 ?qaN_ ?qlN ?qecN ?qszN ?qvN ?qaC ?qpg ?qhd ?qpo ?qsa ?qnG ?qnK ?qhc ?qhn ?qht ?qhm ?qicC ?qtyC ?qa4 ?qa24 ?qmkI ?qaI ?qiI ?qkC ?qlI ?qcI ?qkI ?qlTD ?qeTD ?qlT0 ?qeT0 ?qecT0 ?qsl_ ?qst_ ?qsn_ ?qsi_ ?qss_ ?qfq ?qlC ?qeC ?qlNQ ?qeNQ ?qeqN ?qneN ?qfnQ ?qfst ?qnr ?qt1 ?qt2 ?qa_12 ?ql_12 ?qc_12 ?qk_12 ?qa_13 ?ql_13 ?qc_13 ?qk_13 ?qa_14 ?ql_14 ?qc_14 ?qk_14 ?qa_15 ?ql_15 ?qc_15 ?qk_15 ?qa_16 ?ql_16 ?qc_16 ?qk_16 ?qa_17 ?ql_17 ?qc_17 ?qk_17 ?qa_40 ?ql_40 ?qc_40 ?qk_40 ?qa_21 ?ql_21 ?qc_21 ?qk_21 ?qa_22 ?ql_22 ?qc_22 ?qk_22 ?qa_23 ?ql_23 ?qc_23 ?qk_23 ?qa_24 ?ql_24 ?qc_24 ?qk_24 ?qa_27 ?ql_27 ?qc_27 ?qk_27 ?qa_28 ?ql_28 ?qc_28 ?qk_28 ?qa_29 ?ql_29 ?qc_29 ?qk_29 ?qa_30 ?ql_30 ?qc_30 ?qk_30 ?qa_31 ?ql_31 ?qc_31 ?qk_31 ?qa_32 ?ql_32 ?qc_32 ?qk_32 ?qa_33 ?ql_33 ?qc_33 ?qk_33 ?qa_34 ?ql_34 ?qc_34 ?qk_34 ?qa_35 ?ql_35 ?qc_35 ?qk_35 ?qa_36 ?ql_36 ?qc_36 ?qk_36 ?qa_101 ?qi_101 ?ql_101 ?qc_101 ?qk_101 ?qa_102 ?qi_102 ?ql_102 ?qc_102 ?qk_102 ?qa_103 ?qi_103 ?ql_103 ?qc_103 ?qk_103 ?qa_104 ?qi_104 ?ql_104 ?qc_104 ?qk_104 ?qa_105 ?qi_105 ?ql_105 ?qc_105 ?qk_105 ?qa_106 ?qi_106 ?ql_106 ?qc_106 ?qk_106 ?qa_107 ?qi_107 ?ql_107 ?qc_107 ?qk_107 ?qa_108 ?qi_108 ?ql_108 ?qc_108 ?qk_108 ?qa_109 ?qi_109 ?ql_109 ?qc_109 ?qk_109
    (case qb_len => k_is)
    (case qb_divmod => k_is)
    (case qb_int => k_is)
    (case qb_abs => k_is)
    (case qb_max => k_is)
    (case qb_min => k_is)
    (case qb_range => k_is)
    (case qb_list => k_is)
    (case qb_tuple => k_is)
    (case qb_repr => k_is)
    (case qb_sorted => k_is)
    (case qb_enumerate => k_is)
    (case qb_all => k_is)
    (case qb_any => k_is)
    (case qb_isinstance => k_is)
    (case qb_str => k_is)
    (case qb_bool => k_is)
    (case qaL => k_is)
    (case qeL => rfl)
    (case qa8 => k_is)
    (case qaN_ => k_is)
    (case qlN => k_is)
    (case qecN => rfl)
    (case qszN => decide)
    (case qvN => exact .cons ⟨_, rfl⟩ (.cons ⟨_, rfl⟩ (.cons ⟨_, rfl⟩ .nil)))
    (case qaC => k_is)
    (case qpg => k_is)
    (case qhd => k_is)
    (case qpo => k_is)
    (case qsa => k_is)
    (case qnG => k_is)
    (case qnK => k_is)
    (case qhc => k_is)
    (case qhn => k_is)
    (case qht => k_is)
    (case qhm => k_is)
    (case qicC => k_is)
    (case qtyC => k_is)
    (case qa4 => k_is)
    (case qa24 => k_is)
    (case qmkI => k_is)
    (case qaI => k_is)
    (case qiI => k_is)
    (case qkC => k_is)
    (case qlI => k_is)
    (case qcI => k_is)
    (case qkI => k_is)
    (case qlTD => k_is)
    (case qeTD => rfl)
    (case qlT0 => k_is)
    (case qeT0 => rfl)
    (case qecT0 => rfl)
    (case qsl_ => k_is)
    (case qst_ => k_is)
    (case qsn_ => k_is)
    (case qsi_ => k_is)
    (case qss_ => k_is)
    (case qfq => k_is)
    (case qlC => k_is)
    (case qeC => exact ⟨_, _, _, _, _, _, _, _, _, _, _, _, _, _, _, rfl⟩)
    (case qlNQ => k_is)
    (case qeNQ => rfl)
    (case qeqN => k_is)
    (case qneN => k_is)
    (case qfnQ => k_is)
    (case qfst => k_is)
    (case qnr => k_is)
    (case qt1 => k_is)
    (case qt2 => k_is)
    (case qa_12 => k_is)
    (case ql_12 => k_is)
    (case qc_12 => k_is)
    (case qk_12 => k_is)
    (case qa_13 => k_is)
    (case ql_13 => k_is)
    (case qc_13 => k_is)
    (case qk_13 => k_is)
    (case qa_14 => k_is)
    (case ql_14 => k_is)
    (case qc_14 => k_is)
    (case qk_14 => k_is)
    (case qa_15 => k_is)
    (case ql_15 => k_is)
    (case qc_15 => k_is)
    (case qk_15 => k_is)
    (case qa_16 => k_is)
    (case ql_16 => k_is)
    (case qc_16 => k_is)
    (case qk_16 => k_is)
    (case qa_17 => k_is)
    (case ql_17 => k_is)
    (case qc_17 => k_is)
    (case qk_17 => k_is)
    (case qa_40 => k_is)
    (case ql_40 => k_is)
    (case qc_40 => k_is)
    (case qk_40 => k_is)
    (case qa_21 => k_is)
    (case ql_21 => k_is)
    (case qc_21 => k_is)
    (case qk_21 => k_is)
    (case qa_22 => k_is)
    (case ql_22 => k_is)
    (case qc_22 => k_is)
    (case qk_22 => k_is)
    (case qa_23 => k_is)
    (case ql_23 => k_is)
    (case qc_23 => k_is)
    (case qk_23 => k_is)
    (case qa_24 => k_is)
    (case ql_24 => k_is)
    (case qc_24 => k_is)
    (case qk_24 => k_is)
    (case qa_27 => k_is)
    (case ql_27 => k_is)
    (case qc_27 => k_is)
    (case qk_27 => k_is)
    (case qa_28 => k_is)
    (case ql_28 => k_is)
    (case qc_28 => k_is)
    (case qk_28 => k_is)
    (case qa_29 => k_is)
    (case ql_29 => k_is)
    (case qc_29 => k_is)
    (case qk_29 => k_is)
    (case qa_30 => k_is)
    (case ql_30 => k_is)
    (case qc_30 => k_is)
    (case qk_30 => k_is)
    (case qa_31 => k_is)
    (case ql_31 => k_is)
    (case qc_31 => k_is)
    (case qk_31 => k_is)
    (case qa_32 => k_is)
    (case ql_32 => k_is)
    (case qc_32 => k_is)
    (case qk_32 => k_is)
    (case qa_33 => k_is)
    (case ql_33 => k_is)
    (case qc_33 => k_is)
    (case qk_33 => k_is)
    (case qa_34 => k_is)
    (case ql_34 => k_is)
    (case qc_34 => k_is)
    (case qk_34 => k_is)
    (case qa_35 => k_is)
    (case ql_35 => k_is)
    (case qc_35 => k_is)
    (case qk_35 => k_is)
    (case qa_36 => k_is)
    (case ql_36 => k_is)
    (case qc_36 => k_is)
    (case qk_36 => k_is)
    (case qa_101 => k_is)
    (case qi_101 => k_is)
    (case ql_101 => k_is)
    (case qc_101 => k_is)
    (case qk_101 => k_is)
    (case qa_102 => k_is)
    (case qi_102 => k_is)
    (case ql_102 => k_is)
    (case qc_102 => k_is)
    (case qk_102 => k_is)
    (case qa_103 => k_is)
    (case qi_103 => k_is)
    (case ql_103 => k_is)
    (case qc_103 => k_is)
    (case qk_103 => k_is)
    (case qa_104 => k_is)
    (case qi_104 => k_is)
    (case ql_104 => k_is)
    (case qc_104 => k_is)
    (case qk_104 => k_is)
    (case qa_105 => k_is)
    (case qi_105 => k_is)
    (case ql_105 => k_is)
    (case qc_105 => k_is)
    (case qk_105 => k_is)
    (case qa_106 => k_is)
    (case qi_106 => k_is)
    (case ql_106 => k_is)
    (case qc_106 => k_is)
    (case qk_106 => k_is)
    (case qa_107 => k_is)
    (case qi_107 => k_is)
    (case ql_107 => k_is)
    (case qc_107 => k_is)
    (case qk_107 => k_is)
    (case qa_108 => k_is)
    (case qi_108 => k_is)
    (case ql_108 => k_is)
    (case qc_108 => k_is)
    (case qk_108 => k_is)
    (case qa_109 => k_is)
    (case qi_109 => k_is)
    (case ql_109 => k_is)
    (case qc_109 => k_is)
    (case qk_109 => k_is)
#print axioms PySem.Challenge.cw_lateledger_k51_moves_told_holds

