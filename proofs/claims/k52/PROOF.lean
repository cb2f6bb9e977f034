import PyProof.Rows.All
import Wide.All
import OpenK.AllK
import Wide.FinOn
import KE.KStateDown
import HandS.HeadHook1
import HandS.HeadHook2
import HandS.Head0
import HandS.Head1
import HandS.Head2
import HandS.Head3
import HandS.Property
import HandS.Ends
import HandS.Words
import PyProof.EqAt
import PyProof.EqKinds
import PyProof.TupleCall
import KE.KOpsOwn
import HandS.ForMost
import HandS.WideBits
import HandS.Wide
import HandS.Defaults
import HandS.MakeKw
import HandS.FStr
import HandS.Style
import HandS.NoneIn
import PyProof.InstNe
import HandS.DictComp
import KE.KEqDict
import KE.LtData
import HandS.SortInts
import HandS.Walk
import HandS.More
import HandS.IsInst
import HandS.Text
import KE.GoesEnum
import KE.GoesMore
import HandS.Star
import HandS.RevRange
import HandS.Gcd
import HandS.Iter
import HandS.WordsDict
import HandS.Finally
import KE.SortData
import HandS.ListItems
import HandS.TupLe
import PyProof.CallFns
import PyProof.DictRoadsH
import HandS.Exc
import HandS.ExcOwn
import HandS.TryOnly
import HandS.Small
import HandS.WordsExc
import PySem.Challenge.RW_lateledger_k52_whole_moves_rings_and_cha
set_option Elab.async false
set_option linter.all false
set_option maxRecDepth 100000
set_option maxHeartbeats 4000000
/-! The head by one kernel run: what the end leans on, as one truth value and the texts of the defs. -/
namespace GL
open PySem PySem.Spec PyProof.Rows L2
/-! ### which objects are looked at -/
def rTop (o : Obj) : List Addr := match o.data with
  | .func fd => He.refV fd.code ++ He.refV fd.defaults
  | .cls cd => [cd.ns]
  | .dict es _ => es.toList.flatMap fun e => He.refV e.val
  | .seq its _ => its.toList.flatMap He.refV
  | _ => []
def rDict (o : Obj) : List Addr := match o.data with
  | .dict es _ => es.toList.flatMap fun e => He.refV e.val
  | .seq its _ => its.toList.flatMap He.refV
  | _ => []
def rMeth (o : Obj) : List Addr := match o.data with
  | .func fd => He.refV fd.code ++ He.refV fd.defaults
  | .fields vs => vs.toList.flatMap He.refV
  | _ => []
def rLast (o : Obj) : List Addr := match o.data with
  | .func fd => He.refV fd.code
  | .seq its _ => its.toList.flatMap He.refV
  | _ => []
def nextA (g : Addr → Option Obj) (f : Obj → List Addr) (as : List Addr) : List Addr := as.flatMap fun a => match g a with
  | some o => f o
  | none => []
/-- a list made plain, ahead of what goes on with it -/
def frL {α : Type} : List Addr → (List Addr → α) → α
  | [], k => k []
  | a :: r, k => HandSHeadRun.frNat a fun a => frL r fun r => k (a :: r)
theorem frL_eq {α : Type} : ∀ (l : List Addr) (k : List Addr → α), frL l k = k l
  | [], _ => rfl
  | a :: r, k => by
    show (HandSHeadRun.frNat a fun a => frL r fun r => k (a :: r)) = _
    rw [HandSHeadRun.frNat_eq, frL_eq r]
def frK {α : Type} (g : Addr → Option Obj) : List Addr → (PySem.W.Frag → α) → α
  | [], k => k []
  | a :: r, k => match g a with
    | some ⟨c, d, dt, sl⟩ => frK g r fun K => k ((a, ⟨c, d, dt, sl⟩) :: K)
    | none => frK g r k
theorem frK_eq {α : Type} {g : Addr → Option Obj} : ∀ (l : List Addr) (k : PySem.W.Frag → α), frK g l k = k (He.frG g l)
  | [], _ => rfl
  | a :: r, k => by
    cases e : g a with
    | none =>
      show (match g a with
        | some ⟨c, d, dt, sl⟩ => frK g r fun K => k ((a, ⟨c, d, dt, sl⟩) :: K)
        | none => frK g r k) = _
      rw [e]
      show frK g r k = _
      rw [frK_eq r]
      unfold He.frG
      rw [List.filterMap_cons, e]
      rfl
    | some o =>
      obtain ⟨c, d, dt, sl⟩ := o
      show (match g a with
        | some ⟨c, d, dt, sl⟩ => frK g r fun K => k ((a, ⟨c, d, dt, sl⟩) :: K)
        | none => frK g r k) = _
      rw [e]
      show (frK g r fun K => k ((a, ⟨c, d, dt, sl⟩) :: K)) = _
      rw [frK_eq r]
      unfold He.frG
      rw [List.filterMap_cons, e]
      rfl
def withAs {α : Type} (g : Addr → Option Obj) (k : List Addr → α) : α :=
  frL (nextA g rTop [mainGlobals]) fun l1 => frL (nextA g rTop l1) fun l2 => frL (nextA g rDict l2) fun l3 => frL (nextA g rMeth l3) fun l4 => frL (nextA g rLast l4) fun l5 =>
    k (mainGlobals :: (l1 ++ (l2 ++ (l3 ++ (l4 ++ l5)))))
def asM (g : Addr → Option Obj) : List Addr := withAs g fun l => l
theorem withAs_eq {α : Type} (g : Addr → Option Obj) (k : List Addr → α) : withAs g k = k (asM g) := by
  unfold asM withAs
  simp only [frL_eq]
/-! ### a def -/
structure DfA where
  ad : PySem.W.Frag → Addr
  name : Str
  qual : Str
  params : Arguments
  body : List Stmt
  scope : Scope
  more : PySem.W.Frag → Bool
  dfl : PySem.W.Frag → List V
def fnT (K : PySem.W.Frag) (a : Addr) : He.FnW := match K.lookup a with
  | some ⟨_, _, .func fd, _⟩ => some (fd.name, fd.qualname, fd.params, fd.body, fd.scope, fd.globals, fd.closure, fd.builtins)
  | _ => none
def DfA.val (d : DfA) : He.FnW := some (d.name, d.qual, d.params, .stmts d.body, d.scope, mainGlobals, [], builtinsNs)
def DfA.ok (K : PySem.W.Frag) (d : DfA) : Bool := d.more K && (PySem.W.isFn K (.ref (d.ad K)) && (PySem.W.keepIn K (.ref (d.ad K)) && (match K.lookup (d.ad K) with
  | some ⟨_, _, .func fd, _⟩ => PySem.W.codeIn K fd.code d.qual && He.dflB K fd.defaults (d.dfl K)
  | _ => false)))
theorem DfA.funD {K : PySem.W.Frag} {d : DfA} (e : fnT K (d.ad K) = d.val) (c : d.ok K = true) :
    d.more K = true ∧ PySem.W.isFn K (.ref (d.ad K)) = true ∧ ∃ fd, FunD K d.name d.qual d.params d.body d.scope (d.dfl K) [] (d.ad K) fd := by
  obtain ⟨mr, c0⟩ := He.ba c
  obtain ⟨fn, c1⟩ := He.ba c0
  obtain ⟨kp, c2⟩ := He.ba c1
  refine ⟨mr, fn, ?_⟩
  unfold fnT at e
  cases q : K.lookup (d.ad K) with
  | none =>
    rw [q] at c2
    cases c2
  | some o =>
    obtain ⟨oc, od, dt, osl⟩ := o
    rw [q] at c2 e
    cases dt with
    | func fd =>
      obtain ⟨n1, n2, n3, n4, n5, n6, n7, n8, n9, n10, n11, n12, n13, n14, n15⟩ := fd
      have e2 : (some (n1, n2, n3, n4, n5, n6, n7, n15) : He.FnW) = some (d.name, d.qual, d.params, .stmts d.body, d.scope, mainGlobals, [], builtinsNs) := e
      simp only [Option.some.injEq, Prod.mk.injEq] at e2
      obtain ⟨h1, h2, h3, h4, h5, h6, h7, h8⟩ := e2
      subst h1 h2 h3 h4 h5 h6 h7 h8
      have c3 : (PySem.W.codeIn K n13 d.qual && He.dflB K n8 (d.dfl K)) = true := c2
      obtain ⟨k1, k2⟩ := He.ba c3
      exact ⟨_, ⟨oc, od, n8, n9, n10, n11, n12, n13, n14, osl, rfl, q, k1, He.dflB_ok k2, .inl rfl⟩, kp⟩
    | _ => cases c2
theorem fun_of {K : PySem.W.Frag} {x qual : Str} {st : Stmt} {f : Addr} {fd : FuncData} (F : FunD K x qual (defArgs st) (defBody st) (defScope st) [] [] f fd) : Fun K x qual st f fd := by
  obtain ⟨oc, od, dV, kV, doc, pm, an, cdv, ct, osl, e, lk, hcd, hD, _⟩ := F.ex
  rcases hD with ⟨_, e2⟩ | ⟨z, _⟩
  · subst e2
    exact ⟨⟨oc, od, kV, doc, pm, an, cdv, ct, osl, e, lk, hcd⟩, F.kp⟩
  · exact absurd rfl z
/-! ### the Hook -/
def obsM (es : List (PySem.W.Frag → Bool)) (fs : List DfA) (K : PySem.W.Frag) : He.AlD := ((es.all fun e => e K) && fs.all fun d => d.ok K, fs.map fun d => fnT K (d.ad K))
def valM (fs : List DfA) : He.AlD := (true, fs.map DfA.val)
def SaysM (es : List (PySem.W.Frag → Bool)) (fs : List DfA) (K : PySem.W.Frag) : Prop := obsM es fs K = valM fs
def obsMG (es : List (PySem.W.Frag → Bool)) (fs : List DfA) (g : Addr → Option Obj) : He.AlD := withAs g fun as => frK g as fun K => obsM es fs K
theorem obsMG_eq (es : List (PySem.W.Frag → Bool)) (fs : List DfA) (g : Addr → Option Obj) : obsMG es fs g = obsM es fs (He.frG g (asM g)) := by
  unfold obsMG
  rw [withAs_eq, frK_eq]
def hookM (es : List (PySem.W.Frag → Bool)) (fs : List DfA) : PySem.W.Hook where
  α := He.AlD
  obs := fun s => obsMG es fs s.heap.get?
  val := fun _ => valM fs
  says := fun _ h => ∃ K : PySem.W.Frag, K.In h ∧ SaysM es fs K
  of := fun _ s e => ⟨He.frG s.heap.get? (asM s.heap.get?), He.frG_in, (obsMG_eq es fs _).symm.trans e⟩
  keeps := fun _ _ _ ⟨K, hK, c⟩ k => ⟨K, PySem.W.Frag.In.keeps hK k, c⟩
def obM (es : List (PySem.W.Frag → Bool)) (fs : List DfA) (s : PySem.W.SharedT) : He.AlD := obsMG es fs (HandSHeadRun.getT s)
theorem obM_eq (es : List (PySem.W.Frag → Bool)) (fs : List DfA) (s : PySem.W.SharedT) : obM es fs s = (hookM es fs).obs s.abs := by
  have e : HandSHeadRun.getT s = s.abs.heap.get? := funext (HandSHeadRun.getT_eq s)
  show obsMG es fs (HandSHeadRun.getT s) = obsMG es fs s.abs.heap.get?
  rw [e]
section
variable {es : List (PySem.W.Frag → Bool)} {fs : List DfA} {K : PySem.W.Frag}
theorem SaysM.fact (c : SaysM es fs K) (i : Nat) {e : PySem.W.Frag → Bool} (h : es[i]? = some e) : e K = true := by
  have c1 := (He.ba (show ((es.all fun e => e K) && fs.all fun d => d.ok K) = true from congrArg (fun z : He.AlD => z.1) c)).1
  exact List.all_eq_true.mp c1 e (List.mem_of_getElem? h)
theorem SaysM.def_ (c : SaysM es fs K) (i : Nat) {d : DfA} (h : fs[i]? = some d) : d.more K = true ∧ PySem.W.isFn K (.ref (d.ad K)) = true ∧ ∃ fd, FunD K d.name d.qual d.params d.body d.scope (d.dfl K) [] (d.ad K) fd := by
  have c2 := (He.ba (show ((es.all fun e => e K) && fs.all fun d => d.ok K) = true from congrArg (fun z : He.AlD => z.1) c)).2
  have e : fs.map (fun d => fnT K (d.ad K)) = fs.map DfA.val := congrArg (fun z : He.AlD => z.2) c
  have e2 : (fs.map fun d => fnT K (d.ad K))[i]? = (fs.map DfA.val)[i]? := by rw [e]
  rw [List.getElem?_map, List.getElem?_map, h] at e2
  exact DfA.funD (Option.some.inj e2) (List.all_eq_true.mp c2 d (List.mem_of_getElem? h))
end
/-! ### defs by their places -/
def dG (x : Str) (st : Stmt) : DfA := ⟨fun K => He.ga K x, x, x, defArgs st, defBody st, defScope st, fun K => (He.Fa.glo x).ok K, fun _ => []⟩
def dM (c m qual : Str) (st : Stmt) (dfl : PySem.W.Frag → List V) : DfA := ⟨fun K => He.ma K (He.ga K c) m, m, qual, defArgs st, defBody st, defScope st, fun K => He.eqO (PySem.W.findIn K (.ref (He.ga K c)) m) (some (some (.ref (He.ma K (He.ga K c) m)))), dfl⟩
/-- a property's getter -/
def fget (K : PySem.W.Frag) (p : Addr) : Addr := match PySem.W.recIn K p "property" with
  | some (.ref g :: _) => g
  | _ => 0
def propB (K : PySem.W.Frag) (R p : Addr) (m : Str) : Bool := He.eqO (PySem.W.findIn K (.ref R) m) (some (some (.ref p))) && (decide (PySem.W.specialIn K (.ref p) "__get__" = some (some (.builtin "property.__get__"))) && (decide (PySem.W.takesIn K (.ref p) = some true) && (match PySem.W.recIn K p "property" with
  | some (.ref _ :: _) => true
  | _ => false)))
def dP (c m qual : Str) (st : Stmt) : DfA := ⟨fun K => fget K (He.ma K (He.ga K c) m), m, qual, defArgs st, defBody st, defScope st, fun K => propB K (He.ga K c) (He.ma K (He.ga K c) m) m, fun _ => []⟩
/-- an object default of a method -/
def dflM (c m : Str) (K : PySem.W.Frag) : Addr := match K.lookup (He.ma K (He.ga K c) m) with
  | some ⟨_, _, .func fd, _⟩ => (match fd.defaults with
    | .ref T => (match K.lookup T with
      | some ⟨_, _, .seq its _, _⟩ => (match its.toList with
        | .ref a :: _ => a
        | _ => 0)
      | _ => 0)
    | _ => 0)
  | _ => 0
def noTup (K : PySem.W.Frag) (a : Addr) : Bool := match K.lookup a with
  | some ⟨.type t, _, .seq its _, _⟩ => decide (t = "tuple") && its.isEmpty
  | _ => false
theorem noTup_ok {K : PySem.W.Frag} {a : Addr} (h : noTup K a = true) : SqT K (fun _ => none) a [] := by
  unfold noTup at h
  cases q : K.lookup a with
  | none =>
    rw [q] at h
    cases h
  | some o =>
    obtain ⟨oc, od, dt, osl⟩ := o
    rw [q] at h
    cases oc with
    | type t =>
      cases dt with
      | seq its n =>
        obtain ⟨h1, h2⟩ := He.ba h
        have e1 : t = "tuple" := of_decide_eq_true h1
        have e2 : its = #[] := Array.isEmpty_iff.mp h2
        subst e1 e2
        exact .inr ⟨_, #[], n, q, rfl, rfl, by decide, .nil⟩
      | _ => cases h
    | _ => cases dt <;> cases h
def nsOf (K : PySem.W.Frag) (C : Addr) : Addr := match K.lookup C with
  | some ⟨_, _, .cls cd, _⟩ => cd.ns
  | _ => 0
def slB : List (Option Value) → Bool
  | [_, _, _, _, some (.builtin _), _] => true
  | _ => false
theorem slB_ok {l : List (Option Value)} (h : slB l = true) : ∃ k0 k1 k2 k3 id k5, l = [k0, k1, k2, k3, some (.builtin id), k5] := by
  unfold slB at h
  split at h
  · exact ⟨_, _, _, _, _, _, rfl⟩
  · cases h
/-- a class of the text: its own object -/
def ownB (K : PySem.W.Frag) (C N : Addr) : Bool := match K.lookup C with
  | some ⟨.type t, _, .cls cd, sl⟩ => decide (t = "type") && (decide (cd.ns = N) && (decide (cd.mro = [.ref C, .type "object"]) && (!cd.hasDel && slB sl.toList)))
  | _ => false
theorem ownB_ok {K : PySem.W.Frag} {C N : Addr} (h : ownB K C N = true) : ∃ nm q bs hd sn sub ab col dd k0 k1 k2 k3 k5 id, K.lookup C = some (excClassObj nm q C N bs [.type "object"] hd sn sub ab col dd k0 k1 k2 k3 k5 id) := by
  unfold ownB at h
  cases q : K.lookup C with
  | none =>
    rw [q] at h
    cases h
  | some o =>
    obtain ⟨oc, od, dt, ⟨sl⟩⟩ := o
    rw [q] at h
    cases oc with
    | type t =>
      cases dt with
      | cls cd =>
        obtain ⟨n1, n2, n3, n4, n5, n6, n7, n8, n9, n10, n11⟩ := cd
        obtain ⟨h1, h⟩ := He.ba h
        obtain ⟨h2, h⟩ := He.ba h
        obtain ⟨h3, h⟩ := He.ba h
        obtain ⟨h4, h⟩ := He.ba h
        have e1 : t = "type" := of_decide_eq_true h1
        have e2 : n4 = N := of_decide_eq_true h2
        have e3 : n3 = [.ref C, .type "object"] := of_decide_eq_true h3
        have e4 : n11 = false := by
          cases n11 with
          | false => rfl
          | true => cases h4
        have h5 : slB sl = true := h
        subst e1 e2 e3 e4
        obtain ⟨k0, k1, k2, k3, id, k5, rfl⟩ := slB_ok h5
        exact ⟨n1, n5, n2, n6, n7, n8, n9, n10, od, k0, k1, k2, k3, k5, id, rfl⟩
      | _ => cases h
    | _ => cases dt <;> cases h
end GL
namespace KM
open PySem PySem.Spec PyProof.Rows L2 GL
def tp (i : Nat) : Stmt := PySem.Challenge.pw_lateledger_k52_whole_moves_rings_and_cha.main.body.getD i (.Pass ⟨0, 0, 0, 0⟩)
abbrev mt0 (i : Nat) : Stmt := inClass (tp 45) i
abbrev ch0 (i : Nat) : Stmt := inClass (tp 3) i
abbrev rm0 (i : Nat) : Stmt := inClass (tp 35) i
abbrev abc0 : Str := "abcdefghijklmnopqrstuvwxyz"
abbrev kept0 : List Str := ["coin", "hall", "outside"]
def es0 : List (PySem.W.Frag → Bool) := [fun K => (He.Fa.free "len").ok K,
  fun K => (He.Fa.free "divmod").ok K,
  fun K => (He.Fa.free "int").ok K,
  fun K => (He.Fa.free "abs").ok K,
  fun K => (He.Fa.free "max").ok K,
  fun K => (He.Fa.free "min").ok K,
  fun K => (He.Fa.free "range").ok K,
  fun K => (He.Fa.free "list").ok K,
  fun K => (He.Fa.free "tuple").ok K,
  fun K => (He.Fa.free "repr").ok K,
  fun K => (He.Fa.free "sorted").ok K,
  fun K => (He.Fa.free "enumerate").ok K]
def es1 : List (PySem.W.Frag → Bool) := [fun K => (He.Fa.free "all").ok K,
  fun K => (He.Fa.free "any").ok K,
  fun K => (He.Fa.free "isinstance").ok K,
  fun K => (He.Fa.free "str").ok K,
  fun K => (He.Fa.free "bool").ok K,
  fun K => (He.Fa.free "dict").ok K,
  fun K => (He.Fa.free "sum").ok K,
  fun K => (He.Fa.free "reversed").ok K,
  fun K => (He.Fa.free "zip").ok K,
  fun K => (He.Fa.str "LETTERS" abc0).ok K,
  fun K => (He.Fa.int "MOST_LETTERS" 8).ok K,
  fun K => (He.Fa.glo "NO_GOODS").ok K]
def es2 : List (PySem.W.Frag → Bool) := [fun K => He.tupB K "NO_GOODS" (kept0.map He.Dv.str),
  fun K => (He.Fa.glo "Moves").ok K,
  fun K => (He.Fa.cls "Moves").ok K,
  fun K => (He.Fa.mkr "Moves").ok K,
  fun K => (He.Fa.noat "Moves" "_goods").ok K,
  fun K => (He.Fa.noat "Moves" "_conditions").ok K,
  fun K => He.eqO (PySem.W.findIn K (.ref (He.ga K "Moves")) "__class__") (some (some (.builtin "object.__class__"))),
  fun K => He.eqO (PySem.W.specialIn K (.builtin "object.__class__") "__get__") (some (some (.builtin "getset_descriptor.__get__"))),
  fun K => decide (PySem.W.takesIn K (.builtin "object.__class__") = some true),
  fun K => decide (PySem.W.mroIn K (He.ga K "Moves") (.type "object") = some true),
  fun K => decide (PySem.W.kitOne K (.type "list") (.ref (He.ga K "Moves")) = some false),
  fun K => decide (PySem.W.subIn K (.type "list") (.ref (He.ga K "Moves")) = some false)]
def es3 : List (PySem.W.Frag → Bool) := [fun K => decide (PySem.W.kitOne K (.type "tuple") (.ref (He.ga K "Moves")) = some false),
  fun K => decide (PySem.W.subIn K (.type "tuple") (.ref (He.ga K "Moves")) = some false),
  fun K => decide (PySem.W.kitOne K (.type "NoneType") (.ref (He.ga K "Moves")) = some false),
  fun K => decide (PySem.W.subIn K (.type "NoneType") (.ref (He.ga K "Moves")) = some false),
  fun K => decide (PySem.W.kitOne K (.type "int") (.ref (He.ga K "Moves")) = some false),
  fun K => decide (PySem.W.subIn K (.type "int") (.ref (He.ga K "Moves")) = some false),
  fun K => decide (PySem.W.kitOne K (.type "str") (.ref (He.ga K "Moves")) = some false),
  fun K => decide (PySem.W.subIn K (.type "str") (.ref (He.ga K "Moves")) = some false),
  fun K => (He.Fa.int "MOST_GOODS" 4).ok K,
  fun K => (He.Fa.int "MOST_CONDITIONS" 24).ok K,
  fun K => noTup K (dflM "Moves" "__init__" K),
  fun K => ownB K (He.ga K "Moves") (nsOf K (He.ga K "Moves"))]
def es4 : List (PySem.W.Frag → Bool) := [fun K => PySem.W.nsOkIn K (nsOf K (He.ga K "Moves")),
  fun K => He.eqO (PySem.W.nsIn K (nsOf K (He.ga K "Moves")) "__eq__") (some (some (.ref (He.ma K (He.ga K "Moves") "__eq__")))),
  fun K => He.eqO (PySem.W.nsIn K (nsOf K (He.ga K "Moves")) "__ne__") (some none),
  fun K => decide (PySem.W.typeIn K (.ref (He.ma K (He.ga K "Moves") "__eq__")) = some (.type "function")),
  fun K => He.eqO (PySem.W.findIn K (.ref (He.ga K "Moves")) "__eq__") (some (some (.ref (He.ma K (He.ga K "Moves") "__eq__")))),
  fun K => (He.Fa.glo "Chains").ok K,
  fun K => (He.Fa.cls "Chains").ok K,
  fun K => (He.Fa.mkr "Chains").ok K,
  fun K => (He.Fa.noat "Chains" "_places").ok K,
  fun K => (He.Fa.noat "Chains" "_conditions").ok K,
  fun K => (He.Fa.noat "Chains" "_many").ok K,
  fun K => (He.Fa.noat "Chains" "_least_sums").ok K]
def es5 : List (PySem.W.Frag → Bool) := [fun K => (He.Fa.glo "Ratio").ok K,
  fun K => (He.Fa.cls "Ratio").ok K,
  fun K => (He.Fa.mkr "Ratio").ok K,
  fun K => (He.Fa.noat "Ratio" "_top").ok K,
  fun K => (He.Fa.noat "Ratio" "_bottom").ok K,
  fun K => He.eqO (PySem.W.findIn K (.ref (He.ga K "Ratio")) "__class__") (some (some (.builtin "object.__class__"))),
  fun K => decide (PySem.W.mroIn K (He.ga K "Ratio") (.type "object") = some true),
  fun K => decide (PySem.W.kitOne K (.type "int") (.ref (He.ga K "Ratio")) = some false),
  fun K => decide (PySem.W.kitOne K (.ref (He.ga K "Ratio")) (.type "int") = some false),
  fun K => He.eqO (PySem.W.nsIn K mainGlobals "gcd") (some (some (.builtin "math.gcd"))),
  fun K => PySem.W.selfFirst K (He.ga K "Ratio"),
  fun K => decide (PySem.W.kitOne K (.type "NoneType") (.ref (He.ga K "Ratio")) = some false)]
def es6 : List (PySem.W.Frag → Bool) := [fun K => decide (PySem.W.kitOne K (.type "bool") (.ref (He.ga K "Ratio")) = some false),
  fun K => decide (PySem.W.kitOne K (.type "int") (.ref (He.ga K "Ratio")) = some false),
  fun K => decide (PySem.W.kitOne K (.type "str") (.ref (He.ga K "Ratio")) = some false),
  fun K => decide (PySem.W.kitOne K (.type "list") (.ref (He.ga K "Ratio")) = some false),
  fun K => decide (PySem.W.kitOne K (.type "tuple") (.ref (He.ga K "Ratio")) = some false),
  fun K => decide (PySem.W.kitOne K (.type "dict") (.ref (He.ga K "Ratio")) = some false),
  fun K => (He.Fa.glo "NoMove").ok K,
  fun K => PySem.W.excIn K (He.ga K "NoMove") [.type "RuntimeError", .type "Exception", .type "BaseException", .type "object"] "RuntimeError.__new__",
  fun K => PySem.W.keepIn K (.ref (He.ga K "NoMove")),
  fun K => decide (PySem.W.subIn K (.ref (He.ga K "NoMove")) (.type "BaseException") = some true),
  fun K => decide (PySem.W.typeIn K (.ref (He.ga K "NoMove")) = some (.type "type")),
  fun K => decide (PySem.W.exmOne K (.ref (He.ga K "NoMove")) (.ref (He.ga K "NoMove")) = some true)]
def es7 : List (PySem.W.Frag → Bool) := [fun K => PySem.W.selfFirst K (He.ga K "Moves"),
  fun K => He.eqO (PySem.W.findIn K (.ref (He.ga K "Moves")) (dunderR "add")) (some none),
  fun K => He.eqO (PySem.W.findIn K (.type "tuple") (PySem.dunder "add")) (some (some (.builtin "tuple.__add__"))),
  fun K => He.eqO (PySem.W.findIn K (.type "tuple") (dunderR "add")) (some none)]
def es : List (PySem.W.Frag → Bool) := es0 ++ (es1 ++ (es2 ++ (es3 ++ (es4 ++ (es5 ++ (es6 ++ (es7)))))))
def fs0 : List (DfA) := [dG "is_integer" (tp 22),
  dG "is_count" (tp 23),
  dG "is_name" (tp 24),
  dG "is_good" (tp 25),
  dG "is_list" (tp 26),
  dG "is_among" (tp 27),
  dG "is_keyed_among" (tp 28),
  dG "is_triple" (tp 29),
  dG "is_number" (tp 31),
  dG "ratio_of" (tp 32),
  dG "are_of_just" (tp 37),
  dG "_is_one_of" (tp 41)]
def fs1 : List (DfA) := [dG "_is_condition" (tp 42),
  dG "_check_goods" (tp 43),
  dG "_check_conditions" (tp 44),
  dG "chains_of" (tp 46),
  dG "positions_broken" (tp 47),
  dG "is_move" (tp 48),
  dG "is_ring" (tp 49),
  dG "broken" (tp 50),
  dG "some_move" (tp 51),
  dG "ring" (tp 52),
  dG "_chains_for" (tp 53),
  dG "tightest" (tp 54)]
def fs2 : List (DfA) := [dG "chain" (tp 55),
  dG "_law_pot" (tp 57),
  dG "_law_draw" (tp 58),
  dG "_law_pick" (tp 59),
  dG "_law_scene" (tp 60),
  dG "_law_tight" (tp 61),
  dG "_law_has_ring" (tp 62),
  dG "_law_keeps" (tp 63),
  dG "_law_chains" (tp 64),
  dG "_law_sum" (tp 65),
  dG "_law_first" (tp 66),
  dG "_law_ring_due" (tp 67)]
def fs3 : List (DfA) := [dG "_law_move_right" (tp 68),
  dG "_law_ring_right" (tp 69),
  dG "_law_broken_right" (tp 70),
  dG "_law_lists_right" (tp 71),
  dG "_law_bounds_right" (tp 72),
  dG "_law_no_move" (tp 73),
  dG "_law_known_right" (tp 74),
  dG "_law_near_right" (tp 75),
  dG "_law_right" (tp 76),
  dG "law" (tp 77),
  dM "Moves" "goods" "Moves.goods" (mt0 1) fun _ => [],
  dM "Moves" "conditions" "Moves.conditions" (mt0 2) fun _ => []]
def fs4 : List (DfA) := [dM "Moves" "__add__" "Moves.__add__" (mt0 6) fun _ => [],
  dM "Moves" "__eq__" "Moves.__eq__" (mt0 8) fun _ => [],
  dM "Moves" "__repr__" "Moves.__repr__" (mt0 9) fun _ => [],
  dM "Chains" "_longer" "Chains._longer" (ch0 1) fun _ => [],
  dM "Chains" "has_ring" "Chains.has_ring" (ch0 2) fun _ => [],
  dM "Chains" "ring" "Chains.ring" (ch0 3) fun _ => [],
  dM "Chains" "tightest" "Chains.tightest" (ch0 4) fun _ => [],
  dM "Chains" "chain" "Chains.chain" (ch0 5) fun _ => [],
  dM "Chains" "_least_list" "Chains._least_list" (ch0 6) fun _ => [],
  dM "Chains" "move" "Chains.move" (ch0 7) fun _ => [],
  dM "Ratio" "is_at_most" "Ratio.is_at_most" (rm0 9) fun _ => [],
  dM "Ratio" "__sub__" "Ratio.__sub__" (rm0 12) fun _ => []]
def fs5 : List (DfA) := [dM "Ratio" "__repr__" "Ratio.__repr__" (rm0 19) fun _ => [],
  dM "Moves" "__init__" "Moves.__init__" (mt0 0) fun K => [.ref (dflM "Moves" "__init__" K)],
  dM "Chains" "__init__" "Chains.__init__" (ch0 0) fun _ => [],
  dM "Ratio" "__init__" "Ratio.__init__" (rm0 0) fun _ => [.int 1],
  dP "Ratio" "top" "Ratio.top" (rm0 1),
  dP "Ratio" "bottom" "Ratio.bottom" (rm0 2)]
def fs : List (DfA) := fs0 ++ (fs1 ++ (fs2 ++ (fs3 ++ (fs4 ++ (fs5)))))
end KM
set_option maxHeartbeats 0
namespace KM
open PySem PySem.W PySem.Calls PyProof.Rows
abbrev RR : OpenRow := OpenLaw.row PySem.Challenge.rw_lateledger_k52_whole_moves_rings_and_cha
abbrev qv : Program := view RR.prog [0, 77]
def loose0 : List PySem.Str := ["_wall", "Chains", "LedgerError", "InvalidNumber", "InvalidGoods", "InvalidConditions", "InvalidCondition", "InvalidMove", "InvalidPosition", "InvalidPair", "StateError", "DividedByZero", "NoMove", "LimitError", "TooMany", "LETTERS"]
def loose1 : List PySem.Str := ["MOST_LETTERS", "NO_GOODS", "is_integer", "is_count", "is_name", "is_good", "is_list", "is_among", "is_keyed_among", "is_triple", "is_number", "ratio_of", "ratios_of", "shared_bottom", "Ratio", "are_of_just"]
def loose2 : List PySem.Str := ["MOST_GOODS", "MOST_CONDITIONS", "_is_one_of", "_is_condition", "_check_goods", "_check_conditions", "Moves", "chains_of", "positions_broken", "is_move", "is_ring", "broken", "some_move", "ring", "_chains_for", "tightest"]
def loose3 : List PySem.Str := ["chain", "_law_pot", "_law_draw", "_law_pick", "_law_scene", "_law_tight", "_law_has_ring", "_law_keeps", "_law_chains", "_law_sum", "_law_first", "_law_ring_due", "_law_move_right", "_law_ring_right", "_law_broken_right", "_law_lists_right"]
def loose4 : List PySem.Str := ["_law_bounds_right", "_law_no_move", "_law_known_right", "_law_near_right", "_law_right"]
def loose : List PySem.Str := loose0 ++ (loose1 ++ (loose2 ++ (loose3 ++ (loose4))))
theorem run (w : World) : HandSHeadRun.RunEqI RR qv (GL.hookM es fs) (GL.obM es fs) 9000 loose w := by
  unfold HandSHeadRun.RunEqI
  kernel_rfl
end KM

set_option Elab.async false
set_option linter.all false
set_option maxRecDepth 100000
set_option maxHeartbeats 2000000
/-! A def's promise that is kept where no repr is under way: calls, bodies, own operators by it. -/
namespace GL
open PySem PySem.Spec PyProof.Rows L2

/-- no guard is up -/
def Clr (A : Around) : Prop := A.guards = some []

theorem Clr.down {A : Around} (g : Clr A) (env : Env) : Clr (A.deeper env) := g
theorem Clr.in1 {A : Around} (g : Clr A) : Clr A.in1 := g
theorem Clr.mk {A : Around} (g : Clr A) (C : Addr) (us : List Value) (kw : List (Str × Value)) :
    Clr (A.under (.builtin "type.__call__" ⟨.ref C :: us, kw⟩)) := by
  have e : (Code.builtin "type.__call__" ⟨.ref C :: us, kw⟩).guards = [] := by
    unfold Code.guards
    rw [if_neg]
    intro h
    exact absurd h (by simp [Code.isGuard, guardIds])
  have z : pushGuards (Code.builtin "type.__call__" ⟨.ref C :: us, kw⟩).guards A.guards = some [] := by rw [e]; exact g
  exact z

structure FnG (P : Program) (w : World) (K : PySem.W.Frag) (mg : Str → Option Value) (base : Heap)
    (CX : CXT) (k : Nat) (f : Addr) (fd : FuncData) (ps : List Str) (sp : Sp) : Prop where
  many : ∀ vs H Q E, sp vs H Q E → vs.length = ps.length
  go : ∀ (A : Around) (out : List Env) (s : Shared) (H : Hp) (args : Args) (us : List Value) (vs : List V) (Q : VK) (E : XK),
    Clr A → Room k A → Env0 P w K mg base A out s H → BindsTo s fd args (ps.zip us) → Vals vs us → sp vs H Q E →
    codeAny (model P w) A (.call (.ref f) args) (CR CX out P w H s Q E) s

theorem FnG.of {P w K mg base CX k f fd ps sp} (F : FnOk P w K mg base CX k f fd ps sp) :
    FnG P w K mg base CX k f fd ps sp :=
  ⟨F.len, fun A out s H args us vs Q E _ => F.run A out s H args us vs Q E⟩
theorem FnG.up {P w K mg base CX j k f fd ps sp} (F : FnG P w K mg base CX j f fd ps sp) (h : j ≤ k) :
    FnG P w K mg base CX k f fd ps sp :=
  ⟨F.many, fun A out s H args us vs Q E g hr => F.go A out s H args us vs Q E g (hr.mono h)⟩
theorem FnG.imp {P w K mg base CX k f fd ps sp sp'} (F : FnG P w K mg base CX k f fd ps sp)
    (h : ∀ vs H Q E, sp' vs H Q E → sp vs H Q E) : FnG P w K mg base CX k f fd ps sp' :=
  ⟨fun vs H Q E q => F.many _ _ _ _ (h _ _ _ _ q), fun A out s H args us vs Q E g hr e b r q => F.go A out s H args us vs Q E g hr e b r (h _ _ _ _ q)⟩

section
variable {X : Cx} {CX : CXT} {k : Nat} {f C : Addr} {fd : FuncData} {ps ks : List Str} {sp : Sp} {dvs : List V}
  {ds : List Value} {E : XK}

/-- the end of a call, for the caller -/
theorem back {pins : List (Addr × Obj)} {σ : L2.St} {H : Hp} {s : Shared} {Q : VK} (hx : Passes CX X E) (I : L2.Inv X pins σ H s)
    (r : Result) (s' : Shared) (hq : CR CX X.stack X.prog X.w H s Q E r s') :
    wants (EP X pins σ Q) X.xe r s' := by
  match r, hq with
  | .error e, hq => exact hx pins σ H s e s' I hq
  | .ok (.ret u), hq => exact I.after hq

/-- the callee runs, somewhere below the body where no guard is up -/
theorem run_at {n : Nat} {g1 : List Value → List Value → List Value} {gV : List V → List V → List V} {A : Around} {pins : List (Addr × Obj)}
    {σ : L2.St} {H : Hp} {s : Shared} {Q : VK} {us ws : List Value} {vs zs : List V}
    (g : Clr A) (hr : Room k A) (fr : A.frames = X.A.frames) (F : FnG X.prog X.w X.K X.mg X.base CX k f fd ps sp)
    (hb : KBn X.K fd ps n ks g1 gV) (hx : Passes CX X E) (I : L2.Inv X pins σ H s) (r : Vals vs us) (rz : Vals zs ws)
    (l1 : vs.length = n) (l2 : zs.length = ks.length) (h : sp (gV vs zs) H Q E) :
    wpAny (model X.prog X.w) A (call (.ref f) us (ks.zip ws)) (EP X pins σ Q) X.xe s := by
  have e0 := I.env0
  have e1 : Env0 X.prog X.w X.K X.mg X.base A X.stack s H := ⟨fr.trans e0.frames, e0.mod, e0.bs, e0.bsz, e0.funs, e0.frf, e0.hok, e0.bare⟩
  exact wpAny_call (codeAny_mono (F.go A X.stack s H ⟨us, ks.zip ws⟩ (g1 us ws) (gV vs zs) Q E g hr e1
    (hb.to s us ws I.kIn (r.length.symm.trans l1) (rz.length.symm.trans l2)) (hb.rel r rz) h) (back hx I))
end

/-! what a call's reading asks: the values, the keywords' values, how many there are, the promise -/
def tGo (n m : Nat) (sp : Sp) (gV : List V → List V → List V) (E : XK) (t tk : TA) : TE := fun σ H Q =>
  t σ H fun vs H1 => tk σ H1 fun zs H2 => vs.length = n ∧ zs.length = m ∧ sp (gV vs zs) H2 Q E
def tGoM (C : Addr) (nm : Str) (n m : Nat) (sp : Sp) (gV : List V → List V → List V) (E : XK) (ta : TE) (t tk : TA) : TE := fun σ H Q =>
  ta σ H fun x H1 => ∃ a dx fs, x = .ref a ∧ H1 a = some (.ins C dx fs) ∧ fs.lookup nm = none ∧
    t σ H1 fun vs H2 => tk σ H2 fun zs H3 => vs.length = n ∧ zs.length = m ∧ sp (gV (.ref a :: vs) zs) H3 Q E
def tNew (C : Addr) (n m : Nat) (sp : Sp) (gV : List V → List V → List V) (E : XK) (t tk : TA) : TE := fun σ H Q =>
  t σ H fun vs H1 => tk σ H1 fun zs H2 => vs.length = n ∧ zs.length = m ∧ ∀ x dx, H2 x = none → H2 dx = none → dx ≠ x →
    sp (gV (.ref x :: vs) zs) (upd (upd H2 dx (.own x)) x (.ins C dx [])) (fun v H3 => v = .non ∧ Q (.ref x) H3) E

section
variable {X : Cx} {CX : CXT} {k n : Nat} {f C : Addr} {fd : FuncData} {ps ks : List Str} {sp : Sp} {E : XK} {x m : Str} {p pos apos : Pos}
  {e o : Expr} {es : List Expr} {kws : List Keyword} {ta : TE} {t tk : TA} {g1 : List Value → List Value → List Value} {gV : List V → List V → List V}

/-- f(e, ..; k = v, ..) -/
theorem pe_go (g : Clr X.A) (F : FnG X.prog X.w X.K X.mg X.base CX k f fd ps sp) (hr : Room k X.A) (hg : Gl X x) (hm : X.mg x = some (.ref f))
    (hk : PySem.W.keepIn X.K (.ref f) = true) (hb : KBn X.K fd ps n ks g1 gV) (hx : Passes CX X E) (ha : PA X (e :: es) t) (hw : PK X kws tk)
    (hall : (backToKw pos (keywordEach kws X.env)).all (·.1.isSome) = true := by rfl)
    (hks : (backToKw pos (keywordEach kws X.env)).filterMap (·.1) = ks := by rfl)
    (hdb : (x == ("__debug__" : Str)) = false := by decide)
    (he : starEach (e :: es) X.env = (false, eval e X.env) :: starEach es X.env := by rfl)
    (hpl : ((backTo pos (starEach (e :: es) X.env)).any (·.1) || (backToKw pos (keywordEach kws X.env)).any (·.1.isNone)) = false := by rfl) :
    PE X (.Call (.Name x p) (e :: es) kws pos) (tGo n ks.length sp gV E t tk) := by
  constructor
  intro pins s σ H Q I h
  apply wpAny_Call_Name_kw
  refine ld_glob I hg hm ?_ hdb
  refine PySem.W.callWith_KW (h₀ := X.base) I.ok.mod.kin hk hall (thn (ha.run pos pins s σ H _ I h) ?_) hpl he
  rintro us s1 ⟨vs, H1, I1, r, q⟩
  refine thn (hw.run pos pins s1 σ H1 _ I1 q) ?_
  rintro ws s2 ⟨zs, H2, I2, rz, l1, l2, q2⟩
  rw [hks]
  exact ⟨I2.kIn, run_at g hr rfl F hb hx I2 r rz l1 l2 q2⟩

/-- o.m(e, ..; k = v, ..) -/
theorem pe_goM {pl : Sem Bool} (g : Clr X.A) (he : PE X o ta) (c : Cls X.K C) (hm : Meth X.K C m f) (F : FnG X.prog X.w X.K X.mg X.base CX k f fd ps sp)
    (hr : Room k X.A) (hb : KBn X.K fd ps (n + 1) ks g1 gV) (hx : Passes CX X E) (ha : PA X (e :: es) t) (hw : PK X kws tk)
    (hall : (backToKw pos (keywordEach kws X.env)).all (·.1.isSome) = true := by rfl)
    (hks : (backToKw pos (keywordEach kws X.env)).filterMap (·.1) = ks := by rfl)
    (hst : starEach (e :: es) X.env = (false, eval e X.env) :: starEach es X.env := by rfl)
    (hpl : ((backTo pos (starEach (e :: es) X.env)).any (·.1) || (backToKw pos (keywordEach kws X.env)).any (·.1.isNone)) = false := by rfl)
    (ht : eval (.Call (.Attribute o m apos) (e :: es) kws pos) X.env = (do
      let ov ← eval o X.env
      standAt apos.atName
      let (f, first) ← holding [ov] (getMethod ov m pl)
      callWith pos f first (backTo pos (starEach (e :: es) X.env)) (backToKw pos (keywordEach kws X.env))) := by rfl) :
    PE X (.Call (.Attribute o m apos) (e :: es) kws pos) (tGoM C m n ks.length sp gV E ta t tk) := by
  constructor
  intro pins s σ H Q I h
  refine PySem.W.methodCall_KW (pl := pl) (thn (he.run pins s σ H _ I h) ?_) ht
  rintro u s1 ⟨x, H1, I1, rx, a, dx, fs, rfl, ea, l, q⟩
  obtain rfl : u = Value.ref a := rx
  refine getmeth_ok I1 ea c hm l ?_
  refine PySem.W.callWith_KW (first := [.ref a]) (h₀ := X.base) I.ok.mod.kin hm.kp hall (thn (ha.run pos pins s1 σ H1 _ I1 q) ?_) hpl hst
  rintro us s2 ⟨vs, H2, I2, r, q2⟩
  refine thn (hw.run pos pins s2 σ H2 _ I2 q2) ?_
  rintro ws s3 ⟨zs, H3, I3, rz, l1, l2, q3⟩
  rw [hks]
  exact ⟨I3.kIn, run_at (us := .ref a :: us) (vs := .ref a :: vs) g hr rfl F hb hx I3 (.cons rfl r) rz (congrArg Nat.succ l1) l2 q3⟩

/-- o.m(k = v, ..), o.m() -/
theorem pe_goM0 {pl : Sem Bool} (g : Clr X.A) (he : PE X o ta) (c : Cls X.K C) (hm : Meth X.K C m f) (F : FnG X.prog X.w X.K X.mg X.base CX k f fd ps sp)
    (hr : Room k X.A) (hb : KBn X.K fd ps 1 ks g1 gV) (hx : Passes CX X E) (hw : PK X kws tk)
    (hall : (backToKw pos (keywordEach kws X.env)).all (·.1.isSome) = true := by rfl)
    (hks : (backToKw pos (keywordEach kws X.env)).filterMap (·.1) = ks := by rfl)
    (hpl : ((backTo pos (starEach [] X.env)).any (·.1) || (backToKw pos (keywordEach kws X.env)).any (·.1.isNone)) = false := by rfl)
    (ht : eval (.Call (.Attribute o m apos) [] kws pos) X.env = (do
      let ov ← eval o X.env
      standAt apos.atName
      let (f, first) ← holding [ov] (getMethod ov m pl)
      callWith pos f first (backTo pos (starEach [] X.env)) (backToKw pos (keywordEach kws X.env))) := by rfl) :
    PE X (.Call (.Attribute o m apos) [] kws pos) (tGoM C m 0 ks.length sp gV E ta tNil tk) := by
  constructor
  intro pins s σ H Q I h
  refine PySem.W.methodCall_KW (pl := pl) (thn (he.run pins s σ H _ I h) ?_) ht
  rintro u s1 ⟨x, H1, I1, rx, a, dx, fs, rfl, ea, l, q⟩
  obtain rfl : u = Value.ref a := rx
  refine getmeth_ok I1 ea c hm l ?_
  refine PySem.W.callWith_KW0 (first := [.ref a]) (h₀ := X.base) I.ok.mod.kin hm.kp hall ?_ hpl
  refine thn (hw.run pos pins s1 σ H1 _ I1 q) ?_
  rintro ws s3 ⟨zs, H3, I3, rz, l1, l2, q3⟩
  rw [hks]
  exact ⟨I3.kIn, run_at (us := [.ref a]) (vs := [.ref a]) g hr rfl F hb hx I3 (.cons rfl .nil) rz rfl l2 q3⟩

theorem run_new {pins : List (Addr × Obj)} {σ : L2.St} {H : Hp} {s : Shared} {Q : VK} {us ws : List Value} {vs zs : List V}
    (g : Clr X.A) (M : Mk X.K C f) (F : FnG X.prog X.w X.K X.mg X.base CX k f fd ps sp) (hr : Room (k + 1) X.A) (hb : KBn X.K fd ps (n + 1) ks g1 gV)
    (hx : Passes CX X E) (I : L2.Inv X pins σ H s) (r : Vals vs us) (rz : Vals zs ws) (l1 : vs.length = n) (l2 : zs.length = ks.length)
    (h : ∀ x dx, H x = none → H dx = none → dx ≠ x →
      sp (gV (.ref x :: vs) zs) (upd (upd H dx (.own x)) x (.ins C dx [])) (fun v H2 => v = .non ∧ Q (.ref x) H2) E) :
    wpAny (model X.prog X.w) X.A (call (.ref C) us (ks.zip ws)) (EP X pins σ Q) X.xe s := by
  have hd := I.hok.fresh (Nat.le_refl s.heap.objs.size)
  have hi := I.hok.fresh (Nat.le_succ s.heap.objs.size)
  have hq := h _ _ hi hd (Nat.ne_of_lt (Nat.lt_succ_self s.heap.objs.size))
  have I2 := Inv.made (C := C) I
  have r1 : Vals (V.ref (s.heap.objs.size + 1) :: vs) (Value.ref (s.heap.objs.size + 1) :: us) := .cons rfl r
  have n1 : (Value.ref (s.heap.objs.size + 1) :: us).length = n + 1 := r1.length.symm.trans (congrArg Nat.succ l1)
  have c := F.go _ X.stack _ _ ⟨Value.ref (s.heap.objs.size + 1) :: us, ks.zip ws⟩ _ _ _ E (g.mk C us (ks.zip ws)) (hr.make C us (ks.zip ws))
    (I2.env0.make C us (ks.zip ws)) (hb.to _ _ ws I2.kIn n1 (rz.length.symm.trans l2)) (hb.rel r1 rz) hq
  refine wpAny_call (make_map (f := f) I.kIn M.makes M.init (beq_iff_eq.mp M.fn) (codeAny_mono c ?_))
  intro rr s' hq'
  match rr, hq' with
  | .error er, hq' => exact hx pins σ _ _ er s' I2 hq'
  | .ok (.ret u), hq' =>
    obtain ⟨v, H', I3, rv, rfl, q3⟩ := I2.after hq'
    exact ⟨rv, V.ref (s.heap.objs.size + 1), H', I3, rfl, q3⟩

/-- C(e, ..; k = v, ..) -/
theorem pe_new (g : Clr X.A) (M : Mk X.K C f) (F : FnG X.prog X.w X.K X.mg X.base CX k f fd ps sp) (hr : Room (k + 1) X.A) (hg : Gl X x)
    (hm : X.mg x = some (.ref C)) (hb : KBn X.K fd ps (n + 1) ks g1 gV) (hx : Passes CX X E) (ha : PA X (e :: es) t) (hw : PK X kws tk)
    (hall : (backToKw pos (keywordEach kws X.env)).all (·.1.isSome) = true := by rfl)
    (hks : (backToKw pos (keywordEach kws X.env)).filterMap (·.1) = ks := by rfl)
    (hdb : (x == ("__debug__" : Str)) = false := by decide)
    (he : starEach (e :: es) X.env = (false, eval e X.env) :: starEach es X.env := by rfl)
    (hpl : ((backTo pos (starEach (e :: es) X.env)).any (·.1) || (backToKw pos (keywordEach kws X.env)).any (·.1.isNone)) = false := by rfl) :
    PE X (.Call (.Name x p) (e :: es) kws pos) (tNew C n ks.length sp gV E t tk) := by
  constructor
  intro pins s σ H Q I h
  apply wpAny_Call_Name_kw
  refine ld_glob I hg hm ?_ hdb
  refine PySem.W.callWith_KW (h₀ := X.base) I.ok.mod.kin M.kp hall (thn (ha.run pos pins s σ H _ I h) ?_) hpl he
  rintro us s1 ⟨vs, H1, I1, r, q⟩
  refine thn (hw.run pos pins s1 σ H1 _ I1 q) ?_
  rintro ws s2 ⟨zs, H2, I2, rz, l1, l2, q2⟩
  rw [hks]
  exact ⟨I2.kIn, run_new g M F hr hb hx I2 r rz l1 l2 q2⟩
/-- C(k = v, ..), C() -/
theorem pe_new0 (g : Clr X.A) (M : Mk X.K C f) (F : FnG X.prog X.w X.K X.mg X.base CX k f fd ps sp) (hr : Room (k + 1) X.A) (hg : Gl X x)
    (hm : X.mg x = some (.ref C)) (hb : KBn X.K fd ps 1 ks g1 gV) (hx : Passes CX X E) (hw : PK X kws tk)
    (hall : (backToKw pos (keywordEach kws X.env)).all (·.1.isSome) = true := by rfl)
    (hks : (backToKw pos (keywordEach kws X.env)).filterMap (·.1) = ks := by rfl)
    (hdb : (x == ("__debug__" : Str)) = false := by decide)
    (hpl : ((backTo pos (starEach [] X.env)).any (·.1) || (backToKw pos (keywordEach kws X.env)).any (·.1.isNone)) = false := by rfl) :
    PE X (.Call (.Name x p) [] kws pos) (tNew C 0 ks.length sp gV E tNil tk) := by
  constructor
  intro pins s σ H Q I h
  apply wpAny_Call_Name_kw
  refine ld_glob I hg hm ?_ hdb
  refine PySem.W.callWith_KW0 (h₀ := X.base) I.ok.mod.kin M.kp hall ?_ hpl
  refine thn (hw.run pos pins s σ H _ I h) ?_
  rintro ws s2 ⟨zs, H2, I2, rz, l1, l2, q2⟩
  rw [hks]
  exact ⟨I2.kIn, run_new (us := []) (vs := []) g M F hr hb hx I2 .nil rz rfl l2 q2⟩
end

/-- a def of the text by its body; no guard is up at its entry -/
theorem body_g {CX : CXT} {P : Program} {w : World} {K : PySem.W.Frag} {mg : Str → Option Value} {base : Heap} {k : Nat} {f : Addr} {name qual : Str}
    {params : Arguments} {body : List Stmt} {scope : Scope} {dV kV doc pm cdv ct oc : Value} {an od : Option Addr} {osl : Array (Option Value)}
    {N ps : List Str} {sp : Sp} (lk : K.lookup f = some ⟨oc, od, .func (PySem.W.fnOf name qual params body scope dV kV doc pm an cdv ct), osl⟩)
    (hcd : PySem.W.codeIn K cdv qual = true) (S : FnScope N ps scope) (many : ∀ vs H Q E, sp vs H Q E → vs.length = ps.length)
    (hbody : ∀ (A : Around) (out : List Env) (s : Shared) (H : Hp) (vs : List V) (Q : VK) (E : XK),
      Clr (A.deeper (envOfC qual scope s.heap.objs.size f cdv)) → Room k (A.deeper (envOfC qual scope s.heap.objs.size f cdv)) → sp vs H Q E →
      ∃ t, PSs (cxOf CX P w K mg base N qual scope f cdv A out s H E) body t ∧ t { nx := fun _ H' => Q .non H', rt := Q } (start N vs) H) :
    FnG P w K mg base CX (k + 1) f (PySem.W.fnOf name qual params body scope dV kV doc pm an cdv ct) ps sp := by
  constructor
  · exact many
  intro A out s H args us vs Q E g hr e0 hb r hsp
  have old : ∀ b ob, base.get? b = some ob → s.heap.get? b = some ob := fun b ob z => (e0.bs b ob z).1
  have KX : K.In s.heap := e0.mod.kin.keeps old
  have kinds : ∀ y ∈ ps.zip us, scope.names.lookup y.1 = some .local ∨
      (scope.names.lookup y.1 = some .cell ∧ ((cellsFrom (s.heap.objs.size + 1) scope.names []).lookup y.1).isSome = true) := by
    rintro ⟨nm, v⟩ hy
    exact (S.par nm (List.of_mem_zip hy).1).imp id fun q => ⟨q, PySem.W.cellsFrom_some _ _ _ (.inl q)⟩
  refine codeAny_call_function hr.depth (KX _ _ lk) rfl S.co S.gen rfl (PySem.W.codeRec_of KX hcd) (hb _ _ _ _ ?_)
  refine wpAny_newFunctionEnv_cells S.kind kinds ?_
  rintro env rfl s1 x
  refine ⟨(e0.mod.nolimit.keeps old).keeps x.toInCall.keep, codeAny_func ?_⟩
  obtain ⟨t, ht, hq⟩ := hbody A out s H vs Q E (g.down _) (hr.deeper _) hsp
  have I := inv_start (CX := CX) (E := E) S hr.hd e0 (many _ _ _ _ hsp) r x
  refine wpAny_mono (ht.run [] s1 (start N vs) H _ I hq) ?_ fun er s' z => z
  intro fl s' hs
  have fin : ∀ {σ' : L2.St} {H' : Hp} {v : V} {u : Value}, L2.Inv (cxOf CX P w K mg base N qual scope f cdv A out s H E) [] σ' H' s' → RelV v u → Q v H' →
      CE out P w H s Q u s' := fun J rv q => ⟨_, _, J.os, J.bare, J.base, J.hok, rv, q⟩
  cases fl
  case ret u =>
    rcases hs with ⟨v, σ2, H2, J, rv, q⟩
    exact fin J rv q
  case next =>
    rcases hs with ⟨σ2, H2, J, q⟩
    exact fin (v := .non) (u := .none) J rfl q
  case brk => exact hs.choose_spec.choose_spec.2.elim
  case cont => exact hs.choose_spec.choose_spec.2.elim
end GL

set_option Elab.async false
set_option linter.all false
set_option maxRecDepth 100000
set_option maxHeartbeats 2000000
namespace GL
open PySem PySem.Spec PyProof.Rows L2

/-- a thing of data that is shown: what repr tells of it -/
structure Shows (d : PyData) : Prop where
  ok : d.showable = true
  nd : d.hasDict = false
  fit : d.shown.length ≤ sizeLine
  low : d.depth ≤ 8

def rReprD (K : PySem.W.Frag) : List V → Hp → VK → Prop := fun xs H Q =>
  ∃ a d, xs = [.ref a] ∧ Dp K H (.ref a) d ∧ Shows d ∧ Q (.str d.shown) H
/-- {x!r}, x data -/
def tFmtD (K : PySem.W.Frag) (te : TE) : TE := fun σ H Q => te σ H fun x H1 => ∃ a d, x = .ref a ∧ Dp K H1 (.ref a) d ∧ Shows d ∧ Q (.str d.shown) H1

section
variable {X : Cx} {k : Nat}
theorem call_repr_D (g : Clr X.A) (hu : X.A.units + 64 < cLine) : CallR X (.builtin "repr") (rReprD X.K) := by
  intro pins s σ H vs us Q I r h
  obtain ⟨a, d, rfl, D, W, q⟩ := h
  cases r with
  | cons r1 r2 =>
    cases r2
    cases r1
    obtain ⟨as, z⟩ := Dp.reads I d (.ref a) (.ref a) D rfl
    refine repr_of_reads' z W.ok (PyData.noDict_hsm W.nd) g ?_ (fun _ _ e => e) ?_ W.fit
    · have := W.low; omega
    · intro h' u tk hk
      exact ⟨.str d.shown, H, I.kept hk, ⟨u, rfl⟩, q⟩
theorem pe_fmtD {e : Expr} {te : TE} {pos : Pos} (g : Clr X.A) (hu : X.A.units + 64 < cLine) (he : PE X e te) :
    PE X (.FormattedValue e 114 none pos) (tFmtD X.K te) := by
  constructor
  intro pins s σ H Q I h
  apply wpAny_FormattedValue_repr
  refine thn (he.run pins s σ H _ I h) ?_
  rintro v s1 ⟨x, H1, I1, r1, a, d, rfl, D, W, q⟩
  cases r1
  obtain ⟨as, z⟩ := Dp.reads I1 d (.ref a) (.ref a) D rfl
  refine pyReprObj_of_reads z W.ok (PyData.noDict_hsm W.nd) g (by have := W.low; omega) (fun _ _ e => e) ?_ W.fit
  intro h' u tk hk
  refine wpAny_formatField_str ?_ ?_ W.fit
  · exact ⟨.str d.shown, H1, I1.kept hk, ⟨_, rfl⟩, q⟩
  · exact ⟨.str d.shown, H1, I1.kept hk, ⟨_, rfl⟩, q⟩
end

/-! ### own operators -/
section
variable {X : Cx} {CX : CXT} {k n : Nat} {f C : Addr} {fd : FuncData} {ps : List Str} {sp : Sp} {E : XK}
  {g1 : List Value → List Value → List Value} {gV : List V → List V → List V}

/-- the own def of an operator, its promise at the two (or one) values -/
structure Own (X : Cx) (CX : CXT) (k : Nat) (C : Addr) (nm : Str) (f : Addr) (fd : FuncData) (ps : List Str) (sp : Sp) (n : Nat) (E : XK) : Prop where
  F : FnG X.prog X.w X.K X.mg X.base CX k f fd ps sp
  at_ : PySem.W.findIn X.K (.ref C) nm = some (some (.ref f))
  fn : PySem.W.isFn X.K (.ref f) = true
  bd : KBn X.K fd ps n [] (fun us _ => us) (fun vs _ => vs)
  ps_ : Passes CX X E

/-- the instance, for the library's rules -/
theorem inst {pins : List (Addr × Obj)} {σ : L2.St} {H : Hp} {s : Shared} {a dx : Addr} {fs : List (Str × V)} (I : L2.Inv X pins σ H s)
    (e : H a = some (.ins C dx fs)) : ∃ ox od, PySem.W.InstAt s.heap a ox C od := by
  obtain ⟨mA, O, _⟩ := ins_get I.hok e
  obtain ⟨od, J, _⟩ := O.look
  exact ⟨_, _, J⟩

def rLenO (C : Addr) (sp : Sp) (E : XK) : List V → Hp → VK → Prop := fun xs H Q =>
  ∃ a dx fs, xs = [.ref a] ∧ H a = some (.ins C dx fs) ∧ sp [.ref a] H (fun v H1 => ∃ n : Int, v = .int n ∧ 0 ≤ n ∧ n < 2 ^ 63 ∧ Q (.int n) H1) E
theorem call_len_O (g : Clr X.A) (hr : Room (k + 1) X.A) (W : Own X CX k C "__len__" f fd ps sp 1 E) : CallR X (.builtin "len") (rLenO C sp E) := by
  intro pins s σ H vs us Q I r h
  obtain ⟨a, dx, fs, rfl, ea, h⟩ := h
  cases r with
  | cons r1 r2 =>
    cases r2
    cases r1
    obtain ⟨ox, od, J⟩ := inst I ea
    obtain ⟨m, hF⟩ := I.fr
    refine PySem.W.len_K hF I.ok.mod.kin J W.at_ W.fn ?_
    refine wpAny_mono (run_at (us := [.ref a]) (vs := [.ref a]) (ws := []) (zs := []) g.in1 hr.in1 rfl W.F W.bd W.ps_ I (.cons rfl .nil) .nil rfl rfl h) ?_ fun _ _ z => z
    rintro u s' ⟨v, H1, I1, rv, n, rfl, h0, h1, q⟩
    obtain ⟨t, rfl⟩ := rv
    exact ⟨⟨h0, h1⟩, .int n, H1, I1.tok _, ⟨_, rfl⟩, q⟩

def rReprO (C : Addr) (sp : Sp) (E : XK) : List V → Hp → VK → Prop := fun xs H Q =>
  ∃ a dx fs, xs = [.ref a] ∧ H a = some (.ins C dx fs) ∧ sp [.ref a] H (fun v H1 => ∃ z : Str, v = .str z ∧ Q (.str z) H1) E
theorem call_repr_O (g : Clr X.A) (hr : Room (k + 1) X.A) (W : Own X CX k C "__repr__" f fd ps sp 1 E) : CallR X (.builtin "repr") (rReprO C sp E) := by
  intro pins s σ H vs us Q I r h
  obtain ⟨a, dx, fs, rfl, ea, h⟩ := h
  cases r with
  | cons r1 r2 =>
    cases r2
    cases r1
    obtain ⟨ox, od, J⟩ := inst I ea
    obtain ⟨m, hF⟩ := I.fr
    refine PySem.W.repr_K (by have := hr.un; show X.A.units + 1 < cLine; omega) hF I.ok.mod.kin J W.at_ W.fn ?_
    refine wpAny_mono (run_at (us := [.ref a]) (vs := [.ref a]) (ws := []) (zs := []) g.in1 hr.in1 rfl W.F W.bd W.ps_ I (.cons rfl .nil) .nil rfl rfl h) ?_ fun _ _ z => z
    rintro u s' ⟨v, H1, I1, rv, y, rfl, q⟩
    obtain ⟨t, rfl⟩ := rv
    exact ⟨.str y, H1, I1, ⟨_, rfl⟩, q⟩

/-- what is on the right of an own ==: its type is told, and is no class below the left one's -/
def RightOf (K : PySem.W.Frag) (C : Addr) (H : Hp) (y : V) : Prop :=
  (∃ a dx fs, y = .ref a ∧ H a = some (.ins C dx fs)) ∨ (∃ a xs, y = .ref a ∧ (SqL K H a xs ∨ SqT K H a xs)) ∨ y = .non ∨ (∃ i, y = .int i) ∨ (∃ z, y = .str z)
structure Below (K : PySem.W.Frag) (C : Addr) : Prop where
  l : PySem.W.subIn K (.type "list") (.ref C) = some false
  t : PySem.W.subIn K (.type "tuple") (.ref C) = some false
  n : PySem.W.subIn K (.type "NoneType") (.ref C) = some false
  i : PySem.W.subIn K (.type "int") (.ref C) = some false
  s : PySem.W.subIn K (.type "str") (.ref C) = some false

theorem look_type {M : Model} {h : Heap} {a : Addr} {o : Obj} (e : h.get? a = some o) : PySem.W.Looks M h (typeOf (.ref a)) o.cls := (PySem.W.Looks.ld e).andThen .now
theorem right_type {pins : List (Addr × Obj)} {σ : L2.St} {H : Hp} {s : Shared} {y : V} {u : Value} (I : L2.Inv X pins σ H s) (B : Below X.K C)
    (r : L2.RelV y u) (h : RightOf X.K C H y) : ∃ tb, (∀ M, PySem.W.Looks M s.heap (typeOf u) tb) ∧ PySem.W.notFirst X.K C tb = true := by
  rcases h with ⟨a, dx, fs, rfl, ea⟩ | ⟨a, xs, rfl, hl | ht⟩ | rfl | ⟨i, rfl⟩ | ⟨z, rfl⟩
  · cases r
    obtain ⟨mA, O, _⟩ := ins_get I.hok ea
    obtain ⟨od, J, _⟩ := O.look
    exact ⟨.ref C, fun M => J.type, by simp [PySem.W.notFirst]⟩
  · cases r
    obtain ⟨its, _, ⟨o, nn, ho, hc, _⟩, _⟩ := I.list hl
    exact ⟨.type "list", fun M => hc ▸ look_type ho, by simp [PySem.W.notFirst, B.l]⟩
  · cases r
    obtain ⟨its, _, ⟨o, ho, hc, _⟩, _⟩ := I.tuple ht
    exact ⟨.type "tuple", fun M => hc ▸ look_type ho, by simp [PySem.W.notFirst, B.t]⟩
  · cases r
    exact ⟨.type "NoneType", fun M => .of_pure rfl, by simp [PySem.W.notFirst, B.n]⟩
  · obtain ⟨t, rfl⟩ := r
    exact ⟨.type "int", fun M => .of_pure rfl, by simp [PySem.W.notFirst, B.i]⟩
  · obtain ⟨t, rfl⟩ := r
    exact ⟨.type "str", fun M => .of_pure rfl, by simp [PySem.W.notFirst, B.s]⟩

/-- x == y, x an instance with an own == -/
def rEqO (K : PySem.W.Frag) (C : Addr) (sp : Sp) (E : XK) : R2 := fun x y H Q =>
  ∃ a dx fs, x = .ref a ∧ H a = some (.ins C dx fs) ∧ RightOf K C H y ∧ sp [.ref a, y] H (fun v H1 => ∃ b, v = .bl b ∧ Q (.bl b) H1) E
theorem op_eq_O (g : Clr X.A) (hr : Room k X.A) (W : Own X CX k C "__eq__" f fd ps sp 2 E) (B : Below X.K C) : OpR X (compareOp .Eq) (rEqO X.K C sp E) := by
  intro pins s σ H x y v u Q I rx ry h
  obtain ⟨a, dx, fs, rfl, ea, ho, h⟩ := h
  cases rx
  obtain ⟨ox, od, J⟩ := inst I ea
  obtain ⟨m, hF⟩ := I.fr
  obtain ⟨tb, ht, hn⟩ := right_type I B ry ho
  show wpAny (model X.prog X.w) X.A (richCompare .Eq (.ref a) u) (EP X pins σ Q) X.xe s
  refine PySem.W.cmp_K (op := .Eq) (tb := tb) hr.units0 hF I.ok.mod.kin J (ht _) hn W.at_ W.fn ?_
  refine wpAny_mono (run_at (us := [.ref a, u]) (vs := [.ref a, y]) (ws := []) (zs := []) g hr rfl W.F W.bd W.ps_ I (.cons rfl (.cons ry .nil)) .nil rfl rfl h) ?_ fun _ _ z => z
  rintro w' s' ⟨z, H1, I1, rz, b, rfl, q⟩
  cases rz
  exact ⟨.bl b, H1, I1, rfl, q⟩

/-- what the top tells of a class with an own == and the != of all objects -/
structure EqC (K : PySem.W.Frag) (C f N : Addr) : Prop where
  obj : ∃ nm q bs hd sn sub ab col dd k0 k1 k2 k3 k5 id, K.lookup C = some (excClassObj nm q C N bs [.type "object"] hd sn sub ab col dd k0 k1 k2 k3 k5 id)
  ok : PySem.W.nsOkIn K N = true
  eq : PySem.W.nsIn K N "__eq__" = some (some (.ref f))
  ne : PySem.W.nsIn K N "__ne__" = some none
  fn : PySem.W.typeIn K (.ref f) = some (.type "function")
theorem ns_some {K : PySem.W.Frag} {h : Heap} {N : Addr} {mN : Str → Option Value} {x : Str} {v : Value} (KX : K.In h) (G : h.Ns N mN)
    (e : PySem.W.nsIn K N x = some (some v)) : mN x = some v := by
  obtain ⟨o, es, ep, ho, hd, _, hf⟩ := G
  unfold PySem.W.nsIn at e
  cases q : K.lookup N with
  | none => rw [q] at e; cases e
  | some o2 =>
    have z := (KX _ _ q).symm.trans ho
    cases z
    obtain ⟨c, d, data, sl⟩ := o
    dsimp only at hd
    subst hd
    rw [q] at e
    dsimp only at e
    rw [← hf]
    show findBy _ es x = some v
    unfold findBy
    rw [← Array.find?_toList]
    cases w : es.toList.find? (·.key.isStr x) with
    | none =>
      rw [w] at e
      dsimp only at e
      split at e <;> cases e
    | some en =>
      rw [w] at e
      cases e
      rfl
theorem EqC.there {K : PySem.W.Frag} {h : Heap} {C f N x : Addr} {o : Obj} (W : EqC K C f N) (KX : K.In h) (hx : h.get? x = some o) (hc : o.cls = .ref C) :
    h.OwnEqNoNe x C f "object" [.type "object"] := by
  obtain ⟨nm, q, bs, hd, sn, sub, ab, col, dd, k0, k1, k2, k3, k5, id, l⟩ := W.obj
  have G : h.Ns N (h.nsMap N) := .of_isNs (PySem.W.isNs_of_in KX W.ok)
  have tf := W.fn
  cases e : K.lookup f with
  | none => simp [PySem.W.typeIn, e] at tf
  | some of =>
    have tc : of.cls = .type "function" := by simpa [PySem.W.typeIn, e] using tf
    exact ⟨o, of, nm, q, N, bs, hd, sn, sub, ab, col, dd, k0, k1, k2, k3, k5, id, _, _, hx, hc, KX _ _ l, G, ns_some KX G W.eq, KX _ _ e, tc,
      PySem.F.cmp_object.mro, PySem.F.cmp_object.eq.lookup, PySem.W.ns_none_of KX G W.ne⟩

/-- x != y, two instances of one class with an own == -/
def rNeO (C : Addr) (sp : Sp) (E : XK) : R2 := fun x y H Q =>
  ∃ a dx fs b dy gs, x = .ref a ∧ y = .ref b ∧ H a = some (.ins C dx fs) ∧ H b = some (.ins C dy gs) ∧
    sp [.ref a, .ref b] H (fun v H1 => ∃ c, v = .bl c ∧ Q (.bl (!c)) H1) E
theorem op_ne_O {N : Addr} (g : Clr X.A) (hr : Room (k + 1) X.A) (W : Own X CX k C "__eq__" f fd ps sp 2 E) (T : EqC X.K C f N) :
    OpR X (compareOp .NotEq) (rNeO C sp E) := by
  intro pins s σ H x y v u Q I rx ry h
  obtain ⟨a, dx, fs, b, dy, gs, rfl, rfl, ea, eb, h⟩ := h
  cases rx
  cases ry
  obtain ⟨_, _, _, ha, _⟩ := I.hok a _ ea
  obtain ⟨_, _, _, hb, _⟩ := I.hok b _ eb
  have z := wpAny_mono (run_at (us := [.ref a, .ref b]) (vs := [.ref a, .ref b]) (ws := []) (zs := []) g.in1 hr.in1 rfl W.F W.bd W.ps_ I
    (.cons rfl (.cons rfl .nil)) .nil rfl rfl h) (Q' := fun w' s' => ∃ c, w' = .bool c ∧ EP X pins σ Q (.bool (!c)) s') ?_ fun _ _ z => z
  · have T' := T.there I.kIn ha rfl
    have hu : X.A.units + 1 < cLine := by have := hr.un; omega
    obtain ⟨hp, gg, d, t, os⟩ := s
    exact compareOp_ne_ownEq PySem.F.cmp_object T' hb rfl hu z
  · rintro w' s' ⟨z, H1, I1, rz, c, rfl, q⟩
    cases rz
    exact ⟨c, rfl, .bl (!c), H1, I1, rfl, q⟩

/-- x + y, x an instance with an own +, y a tuple -/
structure AddC (K : PySem.W.Frag) (C : Addr) : Prop where
  first : PySem.W.selfFirst K C = true
  no_r : PySem.W.findIn K (.ref C) (dunderR "add") = some none
  below : PySem.W.subIn K (.type "tuple") (.ref C) = some false
  t1 : PySem.W.findIn K (.type "tuple") (PySem.dunder "add") = some (some (.builtin "tuple.__add__"))
  t2 : PySem.W.findIn K (.type "tuple") (dunderR "add") = some none
theorem add_tuple {prog : Program} {w : World} {A : Around} {E' : Value → Shared → Prop} {s : Shared} {K : PySem.W.Frag} {x C L f : Addr} {h₀ : Heap} {m : Str → Option Value}
    {ox : Obj} {od : Option Obj} {b : Value} {Q : Value → Shared → Prop} (F : Fr h₀ L s.heap m) (X₀ : K.In h₀) (J : PySem.W.InstAt s.heap x ox C od)
    (hb : ∀ M, PySem.W.Looks M s.heap (typeOf b) (.type "tuple")) (T : AddC K C) (hs : PySem.W.findIn K (.ref C) (PySem.dunder "add") = some (some (.ref f)))
    (hf : PySem.W.isFn K (.ref f) = true) (h : wpAny (model prog w) A (call (.ref f) [.ref x, b]) (PySem.W.CmpBack Q) E' s) :
    wpAny (model prog w) A (binaryOp .Add (.ref x) b) Q E' s := by
  have KX := X₀.keeps F.keep
  obtain ⟨cd, rest, hcd, hm⟩ := PySem.W.ksp_first T.first
  have one := PySem.W.ksp_try KX J hs hf h
  obtain ⟨hh, gg, d, tt, os⟩ := s
  have A1 : PySem.W.Looks (model prog w) hh (typeOf (.ref x)) (.ref C) := J.type
  have A2 : PySem.W.Looks (model prog w) hh (typeOf b) (.type "tuple") := hb _
  have A3 : PySem.W.Looks (model prog w) hh (fillsNumberSlot (.ref C) "add") true := PySem.W.fills_K KX hcd hm hs
  have A4 : PySem.W.Looks (model prog w) hh (fillsNumberSlot (.type "tuple") "add") ((Option.isSome (some (Value.builtin "tuple.__add__")) && !isSeqSlot (some (.builtin "tuple.__add__"))) || (Option.isSome (none : Option Value) && !isSeqSlot none)) :=
    PySem.W.ksp_fillsT KX T.t1 T.t2
  have A4' : PySem.W.Looks (model prog w) hh (fillsNumberSlot (.type "tuple") "add") false := by
    have e : ((Option.isSome (some (Value.builtin "tuple.__add__")) && !isSeqSlot (some (.builtin "tuple.__add__"))) || (Option.isSome (none : Option Value) && !isSeqSlot none)) = false := by decide +kernel
    rw [e] at A4
    exact A4
  have ne : (Value.ref C == Value.type "tuple") = false := Bool.eq_false_iff.mpr fun q => by cases beq_iff_eq.mp q
  show wpAny _ _ (binaryOp .Add (.ref x) b) Q E' _
  have hi : Operator.info .Add = ("+", "add") := rfl
  simp only [binaryOp, hi]
  refine wpAny_holding (wpAny_bind ?_)
  unfold binaryOp1
  refine wpAny_bind (A1.at (wpAny_bind (A2.at (wpAny_bind (A3.at ?_)))))
  simp only [ne, Bool.false_eq_true, if_false]
  ksp_lk
  refine wpAny_mono one ?_ fun _ _ e => e
  rintro r s' ⟨v, rfl, hq⟩
  ksp_lk
  exact hq
def rAddO (K : PySem.W.Frag) (C : Addr) (sp : Sp) (E : XK) : R2 := fun x y H Q =>
  ∃ a dx fs b ys, x = .ref a ∧ y = .ref b ∧ H a = some (.ins C dx fs) ∧ SqT K H b ys ∧ sp [.ref a, .ref b] H Q E
theorem op_add_O (g : Clr X.A) (hr : Room k X.A) (W : Own X CX k C (PySem.dunder "add") f fd ps sp 2 E) (T : AddC X.K C)
    (hv : ∀ vs H Q, sp vs H Q E → sp vs H (fun v H1 => (∃ a, v = .ref a) ∧ Q v H1) E) : OpR X (binaryOp .Add) (rAddO X.K C sp E) := by
  intro pins s σ H x y v u Q I rx ry h
  obtain ⟨a, dx, fs, b, ys, rfl, rfl, ea, eb, h⟩ := h
  cases rx
  cases ry
  obtain ⟨ox, od, J⟩ := inst I ea
  obtain ⟨m, hF⟩ := I.fr
  obtain ⟨its, _, ⟨o, ho, hc, _⟩, _⟩ := I.tuple eb
  refine add_tuple hF I.ok.mod.kin J (fun M => hc ▸ look_type ho) T W.at_ W.fn ?_
  refine wpAny_mono (run_at (us := [.ref a, .ref b]) (vs := [.ref a, .ref b]) (ws := []) (zs := []) g hr rfl W.F W.bd W.ps_ I (.cons rfl (.cons rfl .nil)) .nil rfl rfl (hv _ _ _ h)) ?_ fun _ _ z => z
  rintro w' s' ⟨z, H1, I1, rz, ⟨c, rfl⟩, q⟩
  cases rz
  exact ⟨.ref c, H1, I1, rfl, q⟩
end
end GL

set_option Elab.async false
set_option linter.all false
set_option maxRecDepth 100000
set_option maxHeartbeats 2000000
namespace GL
open PySem PySem.Spec PyProof.Rows L2

section
variable {P : Program} {w : World} {K : PySem.W.Frag} {mg : Str → Option Value} {base : Heap}
theorem okG {x qual : Str} {st : Stmt} {f : Addr} {fd : FuncData} {N ps : List Str} {k : Nat} {sp : Sp} (F : Fun K x qual st f fd)
    (S : FnScope N ps (defScope st)) (many : ∀ vs H Q E, sp vs H Q E → vs.length = ps.length)
    (hbody : ∀ (cdv : Value) (A : Around) (out : List Env) (s : Shared) (H : Hp) (vs : List V) (Q : VK) (E : XK),
      Clr (A.deeper (envOfC qual (defScope st) s.heap.objs.size f cdv)) → Room k (A.deeper (envOfC qual (defScope st) s.heap.objs.size f cdv)) → sp vs H Q E →
      ∃ t, PSs (cxOf CX0 P w K mg base N qual (defScope st) f cdv A out s H E).nox (defBody st) t ∧
        t { nx := fun _ H' => Q .non H', rt := Q } (start N vs) H) : FnG P w K mg base CX0 (k + 1) f fd ps sp := by
  obtain ⟨oc, od, kV, doc, pm, an, cdv, ct, osl, rfl, lk, hcd⟩ := F.ex
  refine body_g lk hcd S many ?_
  intro A out s H vs Q E g hr hsp
  obtain ⟨t, h, q⟩ := hbody cdv A out s H vs Q E g hr hsp
  exact ⟨t, h.nox, q⟩
theorem okGD {x qual : Str} {params : Arguments} {body : List Stmt} {scope : Scope} {dvs : List V} {kws : List (Str × V)} {f : Addr} {fd : FuncData}
    {N ps : List Str} {k : Nat} {sp : Sp} (F : FunD K x qual params body scope dvs kws f fd)
    (S : FnScope N ps scope) (many : ∀ vs H Q E, sp vs H Q E → vs.length = ps.length)
    (hbody : ∀ (cdv : Value) (A : Around) (out : List Env) (s : Shared) (H : Hp) (vs : List V) (Q : VK) (E : XK),
      Clr (A.deeper (envOfC qual scope s.heap.objs.size f cdv)) → Room k (A.deeper (envOfC qual scope s.heap.objs.size f cdv)) → sp vs H Q E →
      ∃ t, PSs (cxOf CX0 P w K mg base N qual scope f cdv A out s H E).nox body t ∧
        t { nx := fun _ H' => Q .non H', rt := Q } (start N vs) H) : FnG P w K mg base CX0 (k + 1) f fd ps sp := by
  obtain ⟨oc, od, dV, kV, doc, pm, an, cdv, ct, osl, rfl, lk, hcd, _, _⟩ := F.ex
  refine body_g lk hcd S many ?_
  intro A out s H vs Q E g hr hsp
  obtain ⟨t, h, q⟩ := hbody cdv A out s H vs Q E g hr hsp
  exact ⟨t, h.nox, q⟩

/-- all parameters by place -/
theorem kbPlace {x qual : Str} {st : Stmt} {f : Addr} {fd : FuncData} {ps : List Str} (F : Fun K x qual st f fd)
    (h : ∀ (kV doc pm : Value) (an : Option Addr) (cdv ct : Value) (us : List Value), us.length = ps.length →
      bindArgs (PySem.W.fnOf x qual (defArgs st) (defBody st) (defScope st) .none kV doc pm an cdv ct) ⟨us, []⟩ = pure (ps.zip us)) :
    KBn K fd ps ps.length [] (fun us _ => us) (fun vs _ => vs) := by
  obtain ⟨oc, od, kV, doc, pm, an, cdv, ct, osl, rfl, lk, hcd⟩ := F.ex
  constructor
  · intro s us ws _ l1 _
    exact .of_eq (h kV doc pm an cdv ct us l1)
  · intro vs us zs ws r _
    exact r
/-- some by place, others by name, no defaults -/
theorem kbNames {x qual : Str} {st : Stmt} {f : Addr} {fd : FuncData} {ps : List Str} (F : Fun K x qual st f fd) (n : Nat) (ks : List Str)
    (g : {α : Type} → List α → List α → List α)
    (hrel : ∀ {vs zs : List V} {us ws : List Value}, Vals vs us → Vals zs ws → Vals (g vs zs) (g us ws))
    (h : ∀ (kV doc pm : Value) (an : Option Addr) (cdv ct : Value) (us ws : List Value), us.length = n → ws.length = ks.length →
      bindArgs (PySem.W.fnOf x qual (defArgs st) (defBody st) (defScope st) .none kV doc pm an cdv ct) ⟨us, ks.zip ws⟩ = pure (ps.zip (g us ws))) :
    KBn K fd ps n ks g g := by
  obtain ⟨oc, od, kV, doc, pm, an, cdv, ct, osl, rfl, lk, hcd⟩ := F.ex
  constructor
  · intro s us ws _ l1 l2
    exact .of_eq (h kV doc pm an cdv ct us ws l1 l2)
  · exact hrel
end

/-! ### numbers that are handed on as letters -/
def rModL : R2 := fun x y H Q => ∃ i j, x = .int i ∧ y = .int j ∧ 0 < j ∧ ∀ r, 0 ≤ r → r < j → r = i % j → Q (.int r) H
def rDivL : R2 := fun x y H Q => ∃ i j, x = .int i ∧ y = .int j ∧ (0 < j ∧ j < 1073741824) ∧ ∀ r, r = i / j → Q (.int r) H
section
variable {X : Cx}
theorem op_mod_l : OpR X (binaryOp .Mod) rModL := by
  intro pins s σ H x y v u Q I rx ry h
  obtain ⟨i, j, ex, ey, hj, q⟩ := h
  refine op_modN pins s σ H x y v u Q I rx ry ⟨i, j, ex, ey, by omega, ?_⟩
  dsimp only
  rw [Int.fmod_eq_emod_of_nonneg _ (by omega : 0 ≤ j)]
  exact q _ (Int.emod_nonneg _ (by omega)) (Int.emod_lt_of_pos _ hj) rfl
theorem op_div_l : OpR X (binaryOp .FloorDiv) rDivL := by
  intro pins s σ H x y v u Q I rx ry h
  obtain ⟨i, j, ex, ey, hj, q⟩ := h
  refine op_fdivN pins s σ H x y v u Q I rx ry ⟨i, j, ex, ey, ⟨by omega, by omega⟩, ?_⟩
  dsimp only
  rw [Int.fdiv_eq_ediv_of_nonneg _ (by omega : 0 ≤ j)]
  exact q _ rfl
end

/-! ### heaps -/
theorem Same.refl' (H : Hp) : Same H H := fun _ _ e => e
/-- all but one address stays -/
def But (p : Addr) (H H' : Hp) : Prop := ∀ a o, a ≠ p → H a = some o → H' a = some o
theorem But.refl {p : Addr} {H : Hp} : But p H H := fun _ _ _ e => e
theorem But.of {p : Addr} {H H' : Hp} (s : Same H H') : But p H H' := fun a o _ e => s a o e
theorem But.trans {p : Addr} {H H1 H2 : Hp} (a : But p H H1) (b : But p H1 H2) : But p H H2 := fun c o n e => b c o n (a c o n e)
theorem But.upd {p : Addr} {H H1 : Hp} {o : HO} (a : But p H H1) : But p H (upd H1 p o) := fun c u n e => by rw [upd_ne n]; exact a c u n e
theorem But.new {p q : Addr} {H H1 : Hp} {o : HO} (a : But p H H1) (n : H1 q = none) : But p H (L2.upd H1 q o) := fun c u m e => by
  have z := a c u m e
  rw [upd_ne (ne_of_none z n)]
  exact z
theorem same_new {q : Addr} {H H1 : Hp} {o : HO} (a : Same H H1) (n : H1 q = none) : Same H (L2.upd H1 q o) := fun c u e => by
  have z := a c u e
  rw [upd_ne (ne_of_none z n)]
  exact z
theorem same_trans {H H1 H2 : Hp} (a : Same H H1) (b : Same H1 H2) : Same H H2 := fun c o e => b c o (a c o e)
theorem But.seq {K : PySem.W.Frag} {p a : Addr} {xs : List V} {H H' : Hp} (b : But p H H') (n : a ≠ p) (h : SqL K H a xs) : SqL K H' a xs := by
  rcases h with (h | ⟨o, h⟩) | h
  · exact .inl (.inl (b _ _ n h))
  · exact .inl (.inr ⟨o, b _ _ n h⟩)
  · exact .inr h
theorem But.tup {K : PySem.W.Frag} {p a : Addr} {xs : List V} {H H' : Hp} (b : But p H H') (n : a ≠ p) (h : SqT K H a xs) : SqT K H' a xs := by
  rcases h with (h | ⟨o, h⟩) | h
  · exact .inl (.inl (b _ _ n h))
  · exact .inl (.inr ⟨o, b _ _ n h⟩)
  · exact .inr h
theorem same_tup {K : PySem.W.Frag} {a : Addr} {xs : List V} {H H' : Hp} (b : Same H H') (h : SqT K H a xs) : SqT K H' a xs := by
  rcases h with (h | ⟨o, h⟩) | h
  · exact .inl (.inl (b _ _ h))
  · exact .inl (.inr ⟨o, b _ _ h⟩)
  · exact .inr h
/-- a new object: the heap behind it by what is told of it -/
theorem mk_new {H : Hp} {o : HO} {Q : V → Hp → Prop} (h : ∀ p H', H p = none → H' p = some o → Same H H' → Q (.ref p) H') :
    ∀ p, H p = none → Q (.ref p) (L2.upd H p o) := fun p n => h p _ n upd_same (same_new (Same.refl' H) n)
/-- a store at p, told likewise -/
theorem mk_upd {H : Hp} {p : Addr} {o : HO} {R : Hp → Prop} (h : ∀ H', H' p = some o → But p H H' → R H') : R (L2.upd H p o) := h _ upd_same But.refl.upd
/-- a def that the text's top has bound to its name, with its promise; its arguments come by place -/
structure Has (P : Program) (w : World) (K : PySem.W.Frag) (mg : Str → Option Value) (base : Heap) (x : Str) (k : Nat) (ps : List Str) (sp : Sp) : Prop where
  ex : ∃ f fd, mg x = some (.ref f) ∧ PySem.W.keepIn K (.ref f) = true ∧ FnG P w K mg base CX0 k f fd ps sp ∧ KBn K fd ps ps.length [] (fun us _ => us) (fun vs _ => vs)
theorem Has.imp {P w K mg base x k ps sp sp'} (h : Has P w K mg base x k ps sp) (i : ∀ vs H Q E, sp' vs H Q E → sp vs H Q E) : Has P w K mg base x k ps sp' := by
  obtain ⟨f, fd, a, b, c, d⟩ := h.ex
  exact ⟨f, fd, a, b, c.imp i, d⟩
/-- f(e, ..) of such a def -/
theorem pe_has {X : Cx} {k : Nat} {x : Str} {ps : List Str} {sp : Sp} {p pos : Pos} {e : Expr} {es : List Expr} {t : TA} (h : Has X.prog X.w X.K X.mg X.base x k ps sp) (g : Clr X.A) (hr : Room k X.A) (hg : Gl X x)
    (ha : PA X (e :: es) t) (hdb : (x == ("__debug__" : Str)) = false := by decide)
    (he : starEach (e :: es) X.env = (false, eval e X.env) :: starEach es X.env := by rfl)
    (hpl : ((backTo pos (starEach (e :: es) X.env)).any (·.1) || (backToKw pos (keywordEach [] X.env)).any (·.1.isNone)) = false := by rfl) :
    PE X (.Call (.Name x p) (e :: es) [] pos) (tGo ps.length 0 sp (fun vs _ => vs) E0 t tNil) := by
  obtain ⟨f, fd, a, b, c, d⟩ := h.ex
  exact pe_go g c hr hg a b d pass0 ha pk_nil rfl rfl hdb he hpl
end GL

set_option Elab.async false
set_option linter.all false
set_option maxRecDepth 100000
set_option maxHeartbeats 2000000
/-! Rules that hand on a heap as a letter, with what is told of it. -/
namespace GL
open PySem PySem.Spec PyProof.Rows L2

abbrev NewK (H : Hp) (o : HO) (Q : VK) : Prop := ∀ p H', H p = none → H' p = some o → Same H H' → Q (.ref p) H'
abbrev PutK (H : Hp) (p : Addr) (o : HO) (R : Hp → Prop) : Prop := ∀ H', H' p = some o → But p H H' → R H'
theorem NewK.go {H : Hp} {o : HO} {Q : VK} (h : NewK H o Q) : ∀ p, H p = none → Q (.ref p) (upd H p o) := fun p n => h p _ n upd_same (same_new (Same.refl' H) n)
theorem PutK.go {H : Hp} {p : Addr} {o : HO} {R : Hp → Prop} (h : PutK H p o R) : R (upd H p o) := h _ upd_same But.refl.upd

def tLstL (t : TA) : TE := fun σ H Q => t σ H fun xs H1 => xs.length ≤ sizeLine ∧ NewK H1 (.lst xs) Q
def tTupL (t : TA) : TE := fun σ H Q => t σ H fun xs H1 => xs.length ≤ sizeLine ∧ NewK H1 (.tup xs) Q
section
variable {X : Cx} {es : List Expr} {t : TA} {pos : Pos}
theorem pe_lstL (h : PA X es t) : PE X (.List es pos) (tLstL t) := by
  constructor
  intro pins s σ H Q I hq
  apply wpAny_List_spliced
  refine thn (h.run pos pins s σ H _ I hq) ?_
  rintro us s1 ⟨xs, H1, I1, r, z, q⟩
  refine ⟨r.length ▸ z, .ref s1.heap.objs.size, _, ?_, rfl, q.go _ (I1.hok.fresh (Nat.le_refl _))⟩
  exact I1.laid (t' := s1.toks) (fun b u e => Heap.get?_push_of_some _ e) (Nat.le_refl _) ⟨z, us, 0, r, Heap.get?_push_size _ rfl⟩
theorem pe_tupL {x1} (h : PA X es t) : PE X (.Tuple es x1 pos) (tTupL t) := by
  constructor
  intro pins s σ H Q I hq
  apply wpAny_Tuple_spliced
  refine thn (h.run pos pins s σ H _ I hq) ?_
  rintro us s1 ⟨xs, H1, I1, r, z, q⟩
  refine ⟨r.length ▸ z, .ref s1.heap.objs.size, _, ?_, rfl, q.go _ (I1.hok.fresh (Nat.le_refl _))⟩
  exact I1.laid (t' := s1.toks) (fun b u e => Heap.get?_push_of_some _ e) (Nat.le_refl _) ⟨z, us, r, ⟨_, Heap.get?_push_size _ rfl, rfl, _, rfl⟩⟩

def rCatL : R2 := fun x y H Q => ∃ l b xs zs, x = .ref l ∧ y = .ref b ∧ H l = some (.lst xs) ∧ H b = some (.lst zs) ∧ xs.length + zs.length ≤ sizeLine ∧ NewK H (.lst (xs ++ zs)) Q
theorem op_catL : OpR X (binaryOp .Add) rCatL := by
  intro pins s σ H x y v u Q I rx ry h
  obtain ⟨l, b, xs, zs, ex, ey, e1, e2, z, q⟩ := h
  exact op_cat pins s σ H x y v u Q I rx ry ⟨l, b, xs, zs, ex, ey, e1, e2, z, q.go⟩
def rListOf (K : PySem.W.Frag) : List V → Hp → VK → Prop := fun xs H Q => ∃ p ys, xs = [.ref p] ∧ (SqL K H p ys ∨ SqT K H p ys) ∧ NewK H (.lst ys) Q
theorem call_listL : CallR X (.type "list") (rListOf X.K) := by
  intro pins s σ H xs us Q I r h
  obtain ⟨p, ys, e, o, q⟩ := h
  exact call_list_of pins s σ H xs us Q I r ⟨p, ys, e, o, q.go⟩
def rTupOf (K : PySem.W.Frag) : List V → Hp → VK → Prop := fun xs H Q => ∃ p ys, xs = [.ref p] ∧ SqL K H p ys ∧ NewK H (.tup ys) Q
theorem call_tupL : CallR X (.type "tuple") (rTupOf X.K) := by
  intro pins s σ H xs us Q I r h
  obtain ⟨p, ys, e, o, q⟩ := h
  exact call_tuple_of pins s σ H xs us Q I r ⟨p, ys, e, .inl ⟨o, q.go⟩⟩
def rSlcL (K : PySem.W.Frag) : V → Option Int → Option Int → Hp → VK → Prop := fun x lo hi H Q => ∃ a xs, x = .ref a ∧ SqL K H a xs ∧ NewK H (.lst (cutV xs lo hi)) Q
theorem slcL : L2.SlR X (rSlcL X.K) := by
  intro pins s σ H x v vl vu lo hi sl Q I rx hs pl pu h
  obtain ⟨a, xs, e, o, q⟩ := h
  exact sl_list pins s σ H x v vl vu lo hi sl Q I rx hs pl pu ⟨a, xs, e, o, q.go⟩
def rSortL (K : PySem.W.Frag) : List V → Hp → VK → Prop := fun vs H Q => ∃ (a : Addr) (xs : List Str), vs = [V.ref a] ∧ (SqL K H a (xs.map V.str)) ∧ xs.length < 64 ∧
  ∀ ys : List Str, ys.Perm xs → sortedS ys = true → NewK H (.lst (ys.map V.str)) Q
theorem call_sortL : CallR X (.builtin "sorted") (rSortL X.K) := by
  intro pins s σ H xs us Q I r h
  obtain ⟨a, zs, e, o, l, q⟩ := h
  exact cr_sortedS pins s σ H xs us Q I r ⟨a, zs, e, o, l, fun ys p h1 h2 h3 => (q ys h1 h2).go p h3⟩

def rAppL : V → List V → Hp → VK → Prop := fun x vs H Q => ∃ l xs y, x = .ref l ∧ vs = [y] ∧ H l = some (.lst xs) ∧ xs.length < sizeLine ∧ PutK H l (.lst (xs ++ [y])) (Q .non)
theorem mt_appL : MtM X "list.append" rAppL := by
  intro pins s σ H x xs v us Q I rx r h
  obtain ⟨l, ys, y, e1, e2, o, z, q⟩ := h
  exact mt_append pins s σ H x xs v us Q I rx r ⟨l, ys, y, e1, e2, o, z, q.go⟩
def rRevL : V → List V → Hp → VK → Prop := fun x vs H Q => ∃ l xs, x = .ref l ∧ vs = [] ∧ H l = some (.lst xs) ∧ PutK H l (.lst xs.reverse) (Q .non)
theorem mt_revL : MtM X "list.reverse" rRevL := by
  intro pins s σ H x xs v us Q I rx r h
  obtain ⟨l, ys, e1, e2, o, q⟩ := h
  exact mt_reverse pins s σ H x xs v us Q I rx r ⟨l, ys, e1, e2, o, q.go⟩
def rClrL : V → List V → Hp → VK → Prop := fun x vs H Q => ∃ l xs, x = .ref l ∧ vs = [] ∧ H l = some (.lst xs) ∧ PutK H l (.lst []) (Q .non)
theorem mt_clrL : MtM X "list.clear" rClrL := by
  intro pins s σ H x xs v us Q I rx r h
  obtain ⟨l, ys, e1, e2, o, q⟩ := h
  exact mt_clear pins s σ H x xs v us Q I rx r ⟨l, ys, e1, e2, o, q.go⟩
end

/-! ### back to what stood before -/
theorem back_same {H H' : Hp} {a : Addr} (s : Same H H') (n : H' a = none) : H a = none := Same.free s n
theorem back_but {p : Addr} {H H' : Hp} {a : Addr} (b : But p H H') (n : H' a = none) (h : a ≠ p) : H a = none := by
  cases q : H a with
  | none => rfl
  | some o => rw [b _ _ h q] at n; cases n
theorem ne_some {H : Hp} {a p : Addr} {o : HO} (n : H a = none) (e : H p = some o) : a ≠ p := fun z => by rw [z, e] at n; cases n
end GL

set_option Elab.async false
set_option linter.all false
set_option maxRecDepth 100000
set_option maxHeartbeats 2000000
/-! Methods and makers of the text's classes, with their promises, as one fact each. -/
namespace GL
open PySem PySem.Spec PyProof.Rows L2

/-- the class at C has the method, with its promise -/
structure HasM (P : Program) (w : World) (K : PySem.W.Frag) (mg : Str → Option Value) (base : Heap) (C : Addr) (m : Str) (k : Nat) (ps : List Str) (sp : Sp) : Prop where
  ex : ∃ f fd, Meth K C m f ∧ FnG P w K mg base CX0 k f fd ps sp ∧ KBn K fd ps ps.length [] (fun us _ => us) (fun vs _ => vs)
/-- the method, called with some of its values by names: n by place (the object among them), ks by name, g puts them in their places -/
structure HasMK (P : Program) (w : World) (K : PySem.W.Frag) (mg : Str → Option Value) (base : Heap) (C : Addr) (m : Str) (k : Nat) (ps : List Str) (sp : Sp)
    (n : Nat) (ks : List Str) (gV : List V → List V → List V) : Prop where
  ex : ∃ f fd g1, Meth K C m f ∧ FnG P w K mg base CX0 k f fd ps sp ∧ KBn K fd ps n ks g1 gV
/-- the class is made so: n values behind the object by place, ks by name -/
structure HasC (P : Program) (w : World) (K : PySem.W.Frag) (mg : Str → Option Value) (base : Heap) (C : Addr) (k : Nat) (ps : List Str) (sp : Sp)
    (n : Nat) (ks : List Str) (gV : List V → List V → List V) : Prop where
  ex : ∃ f fd g1, Mk K C f ∧ FnG P w K mg base CX0 k f fd ps sp ∧ KBn K fd ps (n + 1) ks g1 gV
section
variable {X : Cx} {k n : Nat} {C : Addr} {x m : Str} {ps ks : List Str} {sp : Sp} {p pos apos : Pos} {e o : Expr} {es : List Expr} {kws : List Keyword} {ta : TE} {t tk : TA}
  {gV : List V → List V → List V}
theorem pe_hasM {pl : Sem Bool} (h : HasM X.prog X.w X.K X.mg X.base C m k ps sp) (c : Cls X.K C) (g : Clr X.A) (hr : Room k X.A) (hn : ps.length = n + 1) (he : PE X o ta) (ha : PA X (e :: es) t)
    (hst : starEach (e :: es) X.env = (false, eval e X.env) :: starEach es X.env := by rfl)
    (hpl : ((backTo pos (starEach (e :: es) X.env)).any (·.1) || (backToKw pos (keywordEach [] X.env)).any (·.1.isNone)) = false := by rfl)
    (ht : eval (.Call (.Attribute o m apos) (e :: es) [] pos) X.env = (do
      let ov ← eval o X.env
      standAt apos.atName
      let (f, first) ← holding [ov] (getMethod ov m pl)
      callWith pos f first (backTo pos (starEach (e :: es) X.env)) (backToKw pos (keywordEach [] X.env))) := by rfl) :
    PE X (.Call (.Attribute o m apos) (e :: es) [] pos) (tGoM C m n 0 sp (fun vs _ => vs) E0 ta t tNil) := by
  obtain ⟨f, fd, a, F, b⟩ := h.ex
  rw [hn] at b
  exact pe_goM g he c a F hr b pass0 ha pk_nil rfl rfl hst hpl ht
theorem pe_hasM0 {pl : Sem Bool} (h : HasM X.prog X.w X.K X.mg X.base C m k ps sp) (c : Cls X.K C) (g : Clr X.A) (hr : Room k X.A) (hn : ps.length = 1) (he : PE X o ta)
    (hpl : ((backTo pos (starEach [] X.env)).any (·.1) || (backToKw pos (keywordEach [] X.env)).any (·.1.isNone)) = false := by rfl)
    (ht : eval (.Call (.Attribute o m apos) [] [] pos) X.env = (do
      let ov ← eval o X.env
      standAt apos.atName
      let (f, first) ← holding [ov] (getMethod ov m pl)
      callWith pos f first (backTo pos (starEach [] X.env)) (backToKw pos (keywordEach [] X.env))) := by rfl) :
    PE X (.Call (.Attribute o m apos) [] [] pos) (tGoM C m 0 0 sp (fun vs _ => vs) E0 ta tNil tNil) := by
  obtain ⟨f, fd, a, F, b⟩ := h.ex
  rw [hn] at b
  exact pe_goM0 g he c a F hr b pass0 pk_nil rfl rfl hpl ht
theorem pe_hasMK0 {pl : Sem Bool} (h : HasMK X.prog X.w X.K X.mg X.base C m k ps sp 1 ks gV) (c : Cls X.K C) (g : Clr X.A) (hr : Room k X.A) (he : PE X o ta) (hw : PK X kws tk)
    (hall : (backToKw pos (keywordEach kws X.env)).all (·.1.isSome) = true := by rfl)
    (hks : (backToKw pos (keywordEach kws X.env)).filterMap (·.1) = ks := by rfl)
    (hpl : ((backTo pos (starEach [] X.env)).any (·.1) || (backToKw pos (keywordEach kws X.env)).any (·.1.isNone)) = false := by rfl)
    (ht : eval (.Call (.Attribute o m apos) [] kws pos) X.env = (do
      let ov ← eval o X.env
      standAt apos.atName
      let (f, first) ← holding [ov] (getMethod ov m pl)
      callWith pos f first (backTo pos (starEach [] X.env)) (backToKw pos (keywordEach kws X.env))) := by rfl) :
    PE X (.Call (.Attribute o m apos) [] kws pos) (tGoM C m 0 ks.length sp gV E0 ta tNil tk) := by
  obtain ⟨f, fd, g1, a, F, b⟩ := h.ex
  exact pe_goM0 g he c a F hr b pass0 hw hall hks hpl ht
theorem pe_hasC (h : HasC X.prog X.w X.K X.mg X.base C k ps sp n ks gV) (g : Clr X.A) (hr : Room (k + 1) X.A) (hg : Gl X x) (hm : X.mg x = some (.ref C)) (ha : PA X (e :: es) t) (hw : PK X kws tk)
    (hall : (backToKw pos (keywordEach kws X.env)).all (·.1.isSome) = true := by rfl)
    (hks : (backToKw pos (keywordEach kws X.env)).filterMap (·.1) = ks := by rfl)
    (hdb : (x == ("__debug__" : Str)) = false := by decide)
    (he : starEach (e :: es) X.env = (false, eval e X.env) :: starEach es X.env := by rfl)
    (hpl : ((backTo pos (starEach (e :: es) X.env)).any (·.1) || (backToKw pos (keywordEach kws X.env)).any (·.1.isNone)) = false := by rfl) :
    PE X (.Call (.Name x p) (e :: es) kws pos) (tNew C n ks.length sp gV E0 t tk) := by
  obtain ⟨f, fd, g1, a, F, b⟩ := h.ex
  exact pe_new g a F hr hg hm b pass0 ha hw hall hks hdb he hpl
theorem pe_hasC0 (h : HasC X.prog X.w X.K X.mg X.base C k ps sp 0 ks gV) (g : Clr X.A) (hr : Room (k + 1) X.A) (hg : Gl X x) (hm : X.mg x = some (.ref C)) (hw : PK X kws tk)
    (hall : (backToKw pos (keywordEach kws X.env)).all (·.1.isSome) = true := by rfl)
    (hks : (backToKw pos (keywordEach kws X.env)).filterMap (·.1) = ks := by rfl)
    (hdb : (x == ("__debug__" : Str)) = false := by decide)
    (hpl : ((backTo pos (starEach [] X.env)).any (·.1) || (backToKw pos (keywordEach kws X.env)).any (·.1.isNone)) = false := by rfl) :
    PE X (.Call (.Name x p) [] kws pos) (tNew C 0 ks.length sp gV E0 tNil tk) := by
  obtain ⟨f, fd, g1, a, F, b⟩ := h.ex
  exact pe_new0 g a F hr hg hm b pass0 hw hall hks hdb hpl

/-! own operators of such a class -/
theorem HasM.own {nm : Str} (h : HasM X.prog X.w X.K X.mg X.base C nm k ps sp) : ∃ f fd, Own X CX0 k C nm f fd ps sp ps.length E0 := by
  obtain ⟨f, fd, a, F, b⟩ := h.ex
  exact ⟨f, fd, F, a.at_, a.fn, b, pass0⟩
theorem cr_len (h : HasM X.prog X.w X.K X.mg X.base C "__len__" k ["self"] sp) (g : Clr X.A) (hr : Room (k + 1) X.A) : CallR X (.builtin "len") (rLenO C sp E0) := by
  obtain ⟨f, fd, W⟩ := h.own
  exact call_len_O g hr W
theorem cr_repr (h : HasM X.prog X.w X.K X.mg X.base C "__repr__" k ["self"] sp) (g : Clr X.A) (hr : Room (k + 1) X.A) : CallR X (.builtin "repr") (rReprO C sp E0) := by
  obtain ⟨f, fd, W⟩ := h.own
  exact call_repr_O g hr W
theorem or_eq (h : HasM X.prog X.w X.K X.mg X.base C "__eq__" k ["self", "other"] sp) (B : Below X.K C) (g : Clr X.A) (hr : Room k X.A) : OpR X (compareOp .Eq) (rEqO X.K C sp E0) := by
  obtain ⟨f, fd, W⟩ := h.own
  exact op_eq_O g hr W B
theorem or_ne (h : HasM X.prog X.w X.K X.mg X.base C "__eq__" k ["self", "other"] sp) (T : ∃ f N, EqC X.K C f N ∧ PySem.W.findIn X.K (.ref C) "__eq__" = some (some (.ref f))) (g : Clr X.A) (hr : Room (k + 1) X.A) :
    OpR X (compareOp .NotEq) (rNeO C sp E0) := by
  obtain ⟨f, fd, W⟩ := h.own
  obtain ⟨f', N, T, e⟩ := T
  have z := e.symm.trans W.at_
  cases z
  exact op_ne_O g hr W T
theorem or_add (h : HasM X.prog X.w X.K X.mg X.base C (PySem.dunder "add") k ["self", "other"] sp) (T : AddC X.K C) (g : Clr X.A) (hr : Room k X.A)
    (hv : ∀ vs H Q, sp vs H Q E0 → sp vs H (fun v H1 => (∃ a, v = .ref a) ∧ Q v H1) E0) : OpR X (binaryOp .Add) (rAddO X.K C sp E0) := by
  obtain ⟨f, fd, W⟩ := h.own
  exact op_add_O g hr W T hv
end
end GL

set_option Elab.async false
set_option linter.all false
set_option maxRecDepth 100000
set_option maxHeartbeats 2000000
/-! Dicts among whose keys None may stand, alone or within pairs. -/
namespace GL
open PySem PySem.Spec PyProof.Rows L2

abbrev NK := Option Key
def nV : NK → V
  | none => .non
  | some k => kV k
section
variable {P : Program} {w : World}
theorem nV_is {k : NK} {u : Value} (r : RelV (nV k) u) : (noneKind P w).is k u = true := by
  cases k with
  | some j => exact kV_is (P := P) (w := w) r
  | none => cases (show u = Value.none from r); rfl
theorem n_items : ∀ {ks : List NK} {us : List Value}, Vals (ks.map nV) us → ItemsAre (noneKind P w) ks us
  | [], us, r => by cases r; exact .nil
  | k :: ks, us, r => by cases r with | cons h t => exact .cons (nV_is h) (n_items t)
/-- the dict at a, its keys None, numbers, texts -/
def NDo (P : Program) (w : World) (a : Addr) (kvs : List (NK × V)) : HO :=
  .ext fun h => kvs.length ≤ sizeLine ∧ (a == sysModules) = false ∧ ∃ vs, KV kvs vs ∧ h.DictOf (noneKind P w) a vs
/-- an entry of a dict with tuples as keys: the key, where its tuple stands, the value -/
abbrev PE3 := List NK × Addr × V
def PR : List PE3 → List (List NK × Addr × Value) → Prop := Paired fun p q => p.1 = q.1 ∧ p.2.1 = q.2.1 ∧ RelV p.2.2 q.2.2
def PDo (P : Program) (w : World) (a : Addr) (xs : List PE3) : HO :=
  .ext fun h => xs.length ≤ sizeLine ∧ (a == sysModules) = false ∧ ∃ ys, PR xs ys ∧ ∃ o es ep, h.get? a = some o ∧ o.ExactDict ∧ o.data = .dict es ep ∧
    es.toList = ys.map (entryOfKey (tupleKind (noneKind P w))) ∧ (ys.map (·.1)).Nodup
/-- the dict of pairs at a, its tuples told too -/
def PD (P : Program) (w : World) (H : Hp) (a : Addr) (kvs : List (List NK × V)) : Prop :=
  ∃ xs, H a = some (PDo P w a xs) ∧ xs.map (fun x => (x.1, x.2.2)) = kvs ∧ ∀ x ∈ xs, H x.2.1 = some (.tup (x.1.map nV))
end
theorem pd_same {P : Program} {w : World} {H H' : Hp} {a : Addr} {kvs : List (List NK × V)} (h : PD P w H a kvs) (s : Same H H') : PD P w H' a kvs := by
  obtain ⟨xs, e, m, t⟩ := h
  exact ⟨xs, s _ _ e, m, fun x hx => s _ _ (t x hx)⟩
theorem pd_but {P : Program} {w : World} {H H' : Hp} {a p : Addr} {kvs : List (List NK × V)} {o : HO} (h : PD P w H a kvs) (b : But p H H') (n : a ≠ p) (ep : H p = some o) (no : ∀ ys, o ≠ .tup ys) : PD P w H' a kvs := by
  obtain ⟨xs, e, m, t⟩ := h
  refine ⟨xs, b _ _ n e, m, fun x hx => b _ _ (ne_of (t x hx) ep fun z => no _ z.symm) (t x hx)⟩

section
variable {X : Cx} {pins : List (Addr × Obj)} {σ : L2.St} {H : Hp} {s : Shared} {a b : Addr} {y v : V} {u r : Value} {o : Option V} {A : Around} {E : Value → Shared → Prop}
theorem nd_of {kvs : List (NK × V)} (I : L2.Inv X pins σ H s) (e : H a = some (NDo X.prog X.w a kvs)) :
    kvs.length ≤ sizeLine ∧ (a == sysModules) = false ∧ ∃ vs, KV kvs vs ∧ s.heap.DictOf (noneKind X.prog X.w) a vs := (I.hok a _ e).1
theorem nd_put {H' : Hp} {h' : Heap} {kvs : List (NK × V)} {vs : List (NK × Value)} (z : kvs.length ≤ sizeLine) (hd : (a == sysModules) = false) (rel : KV kvs vs) (dd : h'.DictOf (noneKind X.prog X.w) a vs) :
    ObjOk X.prog X.w H' h' a (NDo X.prog X.w a kvs) := by
  obtain ⟨ob, es, ep, ho, rest⟩ := dd
  refine ⟨⟨z, hd, vs, rel, ob, es, ep, ho, rest⟩, ⟨ob, ho⟩, ?_⟩
  rintro h1 h2 ⟨z1, hd1, vs1, rel1, o1, es1, ep1, ho1, rest1⟩ st
  exact ⟨z1, hd1, vs1, rel1, o1, es1, ep1, st _ ho1, rest1⟩
theorem nkey_of {ks : List NK} (I : L2.Inv X pins σ H s) (e : H b = some (.tup (ks.map nV))) : (tupleKind (noneKind X.prog X.w)).is s.heap ks b := by
  obtain ⟨_, its, rv, ob, h1, h2, n, h3⟩ := (show ObjOk X.prog X.w H s.heap b (.tup (ks.map nV)) from I.hok b _ e)
  refine ⟨ob, its.toArray, n, h1, h2, h3, ?_⟩
  have z := n_items (P := X.prog) (w := X.w) rv
  simpa using z
theorem PR.at (xs : List PE3) (ys : List (List NK × Addr × Value)) (h : PR xs ys) (k : List NK) : RelO (valV (xs.map fun x => (x.1, x.2.2)) k) ((atKey ys k).map (·.2)) := by
  unfold PR at h
  induction h with
  | nil => exact True.intro
  | @cons p q ps qs h1 _ ih =>
    obtain ⟨e1, _, e3⟩ := h1
    by_cases c : p.1 = k
    · have l : valV ((p.1, p.2.2) :: ps.map fun x => (x.1, x.2.2)) k = some p.2.2 := valV_pos c
      have l2 : atKey (q :: qs) k = some q.2 := by simp [atKey, List.find?_cons, e1.symm.trans c]
      show RelO (valV ((p.1, p.2.2) :: ps.map fun x => (x.1, x.2.2)) k) _
      rw [l, l2]
      exact e3
    · have l : valV ((p.1, p.2.2) :: ps.map fun x => (x.1, x.2.2)) k = valV (ps.map fun x => (x.1, x.2.2)) k := valV_neg c
      have c2 : ¬ q.1 = k := fun z => c (e1.trans z)
      have l2 : atKey (q :: qs) k = atKey qs k := by simp [atKey, List.find?_cons, c2]
      show RelO (valV ((p.1, p.2.2) :: ps.map fun x => (x.1, x.2.2)) k) _
      rw [l, l2]
      exact ih
theorem pd_of {kvs : List (List NK × V)} (I : L2.Inv X pins σ H s) (e : PD X.prog X.w H a kvs) :
    kvs.length ≤ sizeLine ∧ (a == sysModules) = false ∧ ∃ xs ys, H a = some (PDo X.prog X.w a xs) ∧ xs.map (fun x => (x.1, x.2.2)) = kvs ∧ (∀ x ∈ xs, H x.2.1 = some (.tup (x.1.map nV))) ∧ PR xs ys ∧
      s.heap.DictOfH (tupleKind (noneKind X.prog X.w)) a ys := by
  obtain ⟨xs, ea, m, t⟩ := e
  obtain ⟨z, hd, ys, rel, ob, es, ep, h1, h2, h3, h4, h5⟩ := (I.hok a _ ea).1
  refine ⟨by rw [← m, List.length_map]; exact z, hd, xs, ys, ea, m, t, rel, ob, es, ep, h1, h2, h3, h4, ?_, h5⟩
  have go : ∀ {xs : List PE3} {ys : List (List NK × Addr × Value)}, PR xs ys → (∀ x ∈ xs, H x.2.1 = some (.tup (x.1.map nV))) → ∀ q ∈ ys, (tupleKind (noneKind X.prog X.w)).is s.heap q.1 q.2.1 := by
    intro xs ys q
    unfold PR at q
    induction q with
    | nil => intro _ q hq; cases hq
    | @cons p q ps qs h1 _ ih =>
      intro ht r hr
      rcases List.mem_cons.mp hr with rfl | hr
      · have := nkey_of I (ht p (List.mem_cons_self ..))
        rw [h1.1, h1.2.1] at this
        exact this
      · exact ih (fun x hx => ht x (List.mem_cons_of_mem _ hx)) r hr
  exact go rel t

/-- what such a dict holds at y -/
def OGet (P : Program) (w : World) (H : Hp) (a : Addr) (y : V) (r : Option V) : Prop :=
  (∃ kvs k, H a = some (NDo P w a kvs) ∧ y = nV k ∧ r = valV kvs k) ∨ ∃ kvs k b, PD P w H a kvs ∧ y = .ref b ∧ H b = some (.tup (k.map nV)) ∧ r = valV kvs k
/-- what is asked of the heap behind a[y] = v -/
def OPut (P : Program) (w : World) (H : Hp) (a : Addr) (y v : V) (R : Hp → Prop) : Prop :=
  (∃ kvs k, H a = some (NDo P w a kvs) ∧ y = nV k ∧ kvs.length < sizeLine ∧ ∀ H', H' a = some (NDo P w a (putK kvs k v)) → But a H H' → R H') ∨
  ∃ kvs k b, PD P w H a kvs ∧ y = .ref b ∧ H b = some (.tup (k.map nV)) ∧ kvs.length < sizeLine ∧ ∀ H', PD P w H' a (putK kvs k v) → But a H H' → R H'

theorem og_get {Q : Value → Shared → Prop} (hu : A.units + 1 < cLine) (I : L2.Inv X pins σ H s) (g : OGet X.prog X.w H a y (some v)) (ry : RelV y u) (h : ∀ w' s', L2.Inv X pins σ H s' → RelV v w' → Q w' s') :
    wpAny (model X.prog X.w) A (getItem (.ref a) u) Q E s := by
  rcases g with ⟨kvs, k, e, rfl, l⟩ | ⟨kvs, k, b, e, rfl, eb, l⟩
  · obtain ⟨_, _, vs, rel, dd⟩ := nd_of I e
    have q := rel.val k
    rw [← l] at q
    obtain ⟨w', hw, rw'⟩ := RelO.some_of q
    exact wpAny_getItem_of (nV_is ry) dd.mapOf hw (h w' _ (I.tok _) rw')
  · cases ry
    obtain ⟨_, _, xs, ys, _, m, _, rel, dd⟩ := pd_of I e
    have q := PR.at _ _ rel k
    rw [m, ← l] at q
    obtain ⟨w', hw, rw'⟩ := RelO.some_of q
    obtain ⟨p, hp, rfl⟩ := Option.map_eq_some_iff.mp hw
    exact wpAny_getItem_heap (tupleKind_room_in1 hu) (nkey_of I eb) dd hp (h _ _ (I.tok _) rw')
theorem og_in {Q : Value → Shared → Prop} (hu : A.units + 1 < cLine) (I : L2.Inv X pins σ H s) (g : OGet X.prog X.w H a y o) (ry : RelV y u) (h : ∀ s', L2.Inv X pins σ H s' → Q (.bool o.isSome) s') :
    wpAny (model X.prog X.w) A (compareOp .In u (.ref a)) Q E s := by
  rcases g with ⟨kvs, k, e, rfl, l⟩ | ⟨kvs, k, b, e, rfl, eb, l⟩
  · obtain ⟨_, hd, vs, rel, dd⟩ := nd_of I e
    have q := (rel.val k).isSome_eq
    rw [← l] at q
    exact wpAny_in_of (nV_is ry) hd dd.mapOf (q ▸ h _ (I.tok _))
  · cases ry
    obtain ⟨_, hd, xs, ys, _, m, _, rel, dd⟩ := pd_of I e
    have q := (PR.at _ _ rel k).isSome_eq
    rw [m, ← l, Option.isSome_map] at q
    exact wpAny_in_heap (tupleKind_room_in1 hu) (nkey_of I eb) hd dd (q ▸ h _ (I.tok _))
theorem og_notIn {Q : Value → Shared → Prop} (hu : A.units + 1 < cLine) (I : L2.Inv X pins σ H s) (g : OGet X.prog X.w H a y o) (ry : RelV y u) (h : ∀ s', L2.Inv X pins σ H s' → Q (.bool (!o.isSome)) s') :
    wpAny (model X.prog X.w) A (compareOp .NotIn u (.ref a)) Q E s := by
  rcases g with ⟨kvs, k, e, rfl, l⟩ | ⟨kvs, k, b, e, rfl, eb, l⟩
  · obtain ⟨_, hd, vs, rel, dd⟩ := nd_of I e
    have q := (rel.val k).isSome_eq
    rw [← l] at q
    exact wpAny_notIn_of (nV_is ry) hd dd.mapOf (q ▸ h _ (I.tok _))
  · cases ry
    obtain ⟨_, hd, xs, ys, _, m, _, rel, dd⟩ := pd_of I e
    have q := (PR.at _ _ rel k).isSome_eq
    rw [m, ← l, Option.isSome_map] at q
    exact wpAny_notIn_heap (tupleKind_room_in1 hu) (nkey_of I eb) hd dd (q ▸ h _ (I.tok _))
theorem og_get2 {d : V} {Q : Value → Shared → Prop} (hu : A.units + 1 < cLine) (I : L2.Inv X pins σ H s) (g : OGet X.prog X.w H a y o) (ry : RelV y u) (rd : RelV d r) (h : ∀ w' s', L2.Inv X pins σ H s' → RelV (o.getD d) w' → Q w' s') :
    wpAny (model X.prog X.w) A (call (.builtin "dict.get") [.ref a, u, r]) Q E s := by
  rcases g with ⟨kvs, k, e, rfl, l⟩ | ⟨kvs, k, b, e, rfl, eb, l⟩
  · obtain ⟨_, hd, vs, rel, dd⟩ := nd_of I e
    have q := (rel.val k).getD rd
    rw [← l] at q
    have m := meets_dict_get_default (noneKind X.prog X.w) a (nV_is ry) hd r
    exact call_meetsIn PySem.F.slot_dict_get dd.typeIs PySem.F.entry_dict_get (PySem.F.args_dict_get_3 _ _ _) m ⟨_, dd.mapOf, h _ _ (I.tok _) q⟩
  · cases ry
    obtain ⟨_, hd, xs, ys, _, m, _, rel, dd⟩ := pd_of I e
    have q := (PR.at _ _ rel k).getD rd
    rw [m, ← l] at q
    have mm := meetsH_dict_get_default (tupleKind (noneKind X.prog X.w)) a b hd r
    exact call_meetsIn PySem.F.slot_dict_get dd.typeIs PySem.F.entry_dict_get (PySem.F.args_dict_get_3 _ _ _) mm ⟨tupleKind_room_in1 hu, k, ys, nkey_of I eb, dd, h _ _ (I.tok _) q⟩
end
end GL

set_option Elab.async false
set_option linter.all false
set_option maxRecDepth 100000
set_option maxHeartbeats 2000000
namespace GL
open PySem PySem.Spec PyProof.Rows L2

/-- an entry is put: in its place, or at the end, where its tuple stands at b -/
def putE (xs : List PE3) (k : List NK) (b : Addr) (v : V) : List PE3 :=
  if (xs.any fun x => decide (x.1 = k)) = true then xs.map (fun x => if x.1 = k then (x.1, x.2.1, v) else x) else xs ++ [(k, b, v)]
theorem putE_kvs (xs : List PE3) (k : List NK) (b : Addr) (v : V) : (putE xs k b v).map (fun x => (x.1, x.2.2)) = putK (xs.map fun x => (x.1, x.2.2)) k v := by
  unfold putE putK
  have e : ((xs.map fun x => (x.1, x.2.2)).any fun kv => decide (kv.1 = k)) = xs.any fun x => decide (x.1 = k) := by
    rw [List.any_map]
    rfl
  rw [e]
  split
  · rw [List.map_map, List.map_map]
    refine List.map_congr_left fun x _ => ?_
    show ((if x.1 = k then (x.1, x.2.1, v) else x).1, (if x.1 = k then (x.1, x.2.1, v) else x).2.2) = if x.1 = k then (x.1, v) else (x.1, x.2.2)
    split <;> rfl
  · rw [List.map_append]
    rfl
theorem putE_tups {H : Hp} {xs : List PE3} {k : List NK} {b : Addr} {v : V} (h : ∀ x ∈ xs, H x.2.1 = some (.tup (x.1.map nV))) (hb : H b = some (.tup (k.map nV))) : ∀ x ∈ putE xs k b v, H x.2.1 = some (.tup (x.1.map nV)) := by
  intro x hx
  unfold putE at hx
  split at hx
  · obtain ⟨y, hy, rfl⟩ := List.mem_map.mp hx
    have z := h y hy
    split
    · exact z
    · exact z
  · rcases List.mem_append.mp hx with hx | hx
    · exact h x hx
    · rw [List.mem_singleton.mp hx]
      exact hb
theorem putE_len (xs : List PE3) (k : List NK) (b : Addr) (v : V) : (putE xs k b v).length ≤ xs.length + 1 := by
  unfold putE
  split
  · rw [List.length_map]; omega
  · simp
theorem PR.put {xs : List PE3} {ys : List (List NK × Addr × Value)} (h : PR xs ys) (k : List NK) {b : Addr} {v : V} {u : Value} (r : RelV v u) : PR (putE xs k b v) (storedH ys k b u) := by
  have e : (xs.any fun x => decide (x.1 = k)) = (atKey ys k).isSome := by
    have q := (PR.at _ _ h k).isSome_eq
    rw [Option.isSome_map, ← valV_any, List.any_map] at q
    exact q
  unfold putE storedH
  rw [e]
  split
  · unfold PR at h ⊢
    clear e
    rename_i hh
    clear hh
    induction h with
    | nil => exact .nil
    | @cons p q ps qs h1 _ ih =>
      rw [List.map_cons, List.map_cons]
      refine .cons ?_ ih
      obtain ⟨e1, e2, e3⟩ := h1
      unfold putAt
      by_cases c : p.1 = k
      · rw [if_pos c, if_pos (e1.symm.trans c)]
        exact ⟨e1, e2, r⟩
      · rw [if_neg c, if_neg fun z => c (e1.trans z)]
        exact ⟨e1, e2, e3⟩
  · exact Paired.snoc h ⟨rfl, rfl, r⟩

section
variable {X : Cx} {pins : List (Addr × Obj)} {σ : L2.St} {H : Hp} {s : Shared} {a b : Addr} {y v : V} {u r : Value} {A : Around} {E : Value → Shared → Prop}
theorem pdo_put {H' : Hp} {h' : Heap} {xs : List PE3} {ys : List (List NK × Addr × Value)} (z : xs.length ≤ sizeLine) (hd : (a == sysModules) = false) (rel : PR xs ys) (dd : h'.DictOfH (tupleKind (noneKind X.prog X.w)) a ys) :
    ObjOk X.prog X.w H' h' a (PDo X.prog X.w a xs) := by
  obtain ⟨ob, es, ep, ho, h2, h3, h4, _, h5⟩ := dd
  refine ⟨⟨z, hd, ys, rel, ob, es, ep, ho, h2, h3, h4, h5⟩, ⟨ob, ho⟩, ?_⟩
  rintro h1 h2 ⟨z1, hd1, ys1, rel1, o1, es1, ep1, ho1, rest1⟩ st
  exact ⟨z1, hd1, ys1, rel1, o1, es1, ep1, st _ ho1, rest1⟩
theorem mut_ext {H : Hp} {a : Addr} {φ : Heap → Prop} (e : H a = some (.ext φ)) : Mut (H a) := by rw [e]; exact True.intro
/-- the store itself, by whichever of the machine's two ways -/
theorem og_store {R : Hp → Prop} {T : (Unit → Shared → Prop) → Prop} (I : L2.Inv X pins σ H s) (g : OPut X.prog X.w H a y v R) (ry : RelV y u) (rv : RelV v r) {Q : Unit → Shared → Prop}
    (h : ∀ H' s', R H' → L2.Inv X pins σ H' s' → Q () s')
    (t1 : ∀ {kvs : List (NK × Value)} {k : NK}, (noneKind X.prog X.w).is k u = true → s.heap.DictOf (noneKind X.prog X.w) a kvs → kvs.length ≤ sizeLine →
      (∀ h', h'.DictOf (noneKind X.prog X.w) a (stored kvs k r) → Heap.SameBut a s.heap h' → ∀ n, Q () { s with heap := h', toks := n }) → T Q)
    (t2 : ∀ {b : Addr} {ys : List (List NK × Addr × Value)} {k : List NK}, u = .ref b → (tupleKind (noneKind X.prog X.w)).is s.heap k b → s.heap.DictOfH (tupleKind (noneKind X.prog X.w)) a ys → ys.length ≤ sizeLine →
      (∀ h', h'.DictOfH (tupleKind (noneKind X.prog X.w)) a (storedH ys k b r) → Heap.SameBut a s.heap h' → ∀ n, Q () { s with heap := h', toks := n }) → T Q) : T Q := by
  rcases g with ⟨kvs, k, e, rfl, l, q⟩ | ⟨kvs, k, b, e, rfl, eb, l, q⟩
  · obtain ⟨z, hd, vs, rel, dd⟩ := nd_of I e
    have lp := length_putK kvs k v
    refine t1 (nV_is ry) dd (by rw [← rel.length]; exact z) fun h' dd' hs n => ?_
    obtain ⟨ob, _, _, ho, _⟩ := id dd'
    refine h _ _ (q (upd H a (NDo X.prog X.w a (putK kvs k v))) upd_same But.refl.upd) ?_
    exact d_write I (mut_ext e) hs ⟨ob, ho⟩ (nd_put (by omega) hd (rel.put k rv) dd')
  · have eu : u = .ref b := ry
    obtain ⟨z, hd, xs, ys, ea, m, t, rel, dd⟩ := pd_of I e
    have lx : xs.length = kvs.length := by rw [← m, List.length_map]
    have lp := putE_len xs k b v
    refine t2 eu (nkey_of I eb) dd (by rw [← Paired.length rel]; omega) fun h' dd' hs n => ?_
    obtain ⟨ob, _, _, ho, _⟩ := id dd'
    have nb : ∀ c ys', H c = some (.tup ys') → c ≠ a := fun c ys' ec => ne_of ec ea fun z => nomatch z
    refine h _ _ (q (upd H a (PDo X.prog X.w a (putE xs k b v))) ⟨_, upd_same, by rw [putE_kvs, m], ?_⟩ But.refl.upd) ?_
    · intro x hx
      have ex := putE_tups t eb x hx
      rw [upd_ne (nb _ _ ex)]
      exact ex
    · exact d_write I (mut_ext ea) hs ⟨ob, ho⟩ (pdo_put (by omega) hd (rel.put k rv) dd')
/-- a[y] = v -/
theorem og_setItem {R : Hp → Prop} {Q : Unit → Shared → Prop} (hu : A.units + 1 < cLine) (I : L2.Inv X pins σ H s) (g : OPut X.prog X.w H a y v R) (ry : RelV y u) (rv : RelV v r)
    (h : ∀ H' s', R H' → L2.Inv X pins σ H' s' → Q () s') : wpAny (model X.prog X.w) A (setItem (.ref a) u r) Q E s := by
  refine og_store (T := fun Q => wpAny (model X.prog X.w) A (setItem (.ref a) u r) Q E s) I g ry rv h ?_ ?_
  · intro kvs k hk dd z q
    exact wpAny_setItem_pairs (hsz := z) hk dd fun h' dd' hs => q h' dd' hs _
  · rintro b ys k rfl hk dd z q
    exact wpAny_setItem_heap (hsz := z) (tupleKind_room_in1 hu) hk dd fun h' dd' hs => q h' dd' hs _
/-- the store of a comprehension -/
theorem og_dictSet {R : Hp → Prop} {Q : Unit → Shared → Prop} (hu : A.units < cLine) (I : L2.Inv X pins σ H s) (g : OPut X.prog X.w H a y v R) (ry : RelV y u) (rv : RelV v r)
    (h : ∀ H' s', R H' → L2.Inv X pins σ H' s' → Q () s') : wpAny (model X.prog X.w) A (dictSet a u r) Q E s := by
  refine og_store (T := fun Q => wpAny (model X.prog X.w) A (dictSet a u r) Q E s) I g ry rv h ?_ ?_
  · intro kvs k hk dd z q
    exact wpAny_dictSet_pairs (hsz := z) hk dd fun h' dd' hs => q h' dd' hs _
  · rintro b ys k rfl hk dd z q
    exact wpAny_dictSet_heap (hsz := z) hu hk dd fun h' dd' hs => q h' dd' hs _
theorem og_at {o : Option V} (I : L2.Inv X pins σ H s) (g : OGet X.prog X.w H a y o) : s.TypeIs (.ref a) "dict" ∧ (∀ b, Value.ref a = .ref b → ∃ ob, s.heap.get? b = some ob ∧ ob.dict = none) := by
  rcases g with ⟨kvs, k, e, rfl, l⟩ | ⟨kvs, k, b, e, rfl, eb, l⟩
  · obtain ⟨_, _, vs, _, dd⟩ := nd_of I e
    refine ⟨dd.typeIs, fun b q => ?_⟩
    cases q
    obtain ⟨ob, _, _, h1, h2, _⟩ := dd
    exact ⟨ob, h1, h2.2.1⟩
  · obtain ⟨_, _, xs, ys, _, _, _, _, dd⟩ := pd_of I e
    refine ⟨dd.typeIs, fun b q => ?_⟩
    cases q
    obtain ⟨ob, _, _, h1, h2, _⟩ := dd
    exact ⟨ob, h1, h2.2.1⟩
end

/-! the rules -/
def tOGet (P : Program) (w : World) (td ty : TE) : TE := fun σ H Q => td σ H fun x H1 => ty σ H1 fun y H2 => ∃ a v, x = .ref a ∧ OGet P w H2 a y (some v) ∧ Q v H2
def tOIn (P : Program) (w : World) (ty td : TE) : TE := fun σ H Q => ty σ H fun y H1 => td σ H1 fun x H2 => ∃ a o, x = .ref a ∧ OGet P w H2 a y o ∧ Q (.bl o.isSome) H2
def tONotIn (P : Program) (w : World) (ty td : TE) : TE := fun σ H Q => ty σ H fun y H1 => td σ H1 fun x H2 => ∃ a o, x = .ref a ∧ OGet P w H2 a y o ∧ Q (.bl (!o.isSome)) H2
def sOPut (P : Program) (w : World) (td ty tv : TE) : TS := fun D σ H => tv σ H fun v H1 => td σ H1 fun x H2 => ty σ H2 fun y H3 => ∃ a, x = .ref a ∧ OPut P w H3 a y v fun H4 => D.nx σ H4
def IsO (P : Program) (w : World) (H : Hp) (a : Addr) : Prop := ∃ y o, OGet P w H a y o
def tOGet2 (P : Program) (w : World) (td ty tx : TE) : TE := fun σ H Q => td σ H fun x H1 => ∃ a, x = .ref a ∧ IsO P w H1 a ∧ ty σ H1 fun y H2 => tx σ H2 fun z H3 => ∃ o, OGet P w H3 a y o ∧ Q (o.getD z) H3
section
variable {X : Cx} {o i e f value : Expr} {pos pos' apos cpos : Pos} {td ty tv tx : TE}
theorem pe_oget (hu : X.A.units + 1 < cLine) (ho : PE X o td) (hi : PE X i ty) (hs : NoSl i) : PE X (.Subscript o i pos) (tOGet X.prog X.w td ty) := by
  constructor
  intro pins s σ H Q I h
  refine subD_of PySem.F.slot_dict_getitem.lookup hs (thn (ho.run pins s σ H _ I h) ?_)
  rintro u s1 ⟨x, H1, I1, rx, q1⟩
  refine thn (hi.run pins s1 σ H1 _ I1 q1) ?_
  rintro iv s2 ⟨y, H2, I2, ry, a, v, rfl, g, q2⟩
  cases rx
  exact ⟨(og_at I2 g).1, og_get hu I2 g ry fun w' s3 I3 rw' => ⟨v, H2, I3, rw', q2⟩⟩
theorem pc_oin (hu : X.A.units + 1 < cLine) (hi : PE X i ty) (ho : PE X o td) : PC X .In i o (tOIn X.prog X.w ty td) := by
  constructor
  intro pins s σ H Q I h
  refine thn (hi.run pins s σ H _ I h) ?_
  rintro iv s1 ⟨y, H1, I1, ry, q1⟩
  refine thn (ho.run pins s1 σ H1 _ I1 q1) ?_
  rintro u s2 ⟨x, H2, I2, rx, a, ov, rfl, g, q2⟩
  cases rx
  exact og_in hu I2 g ry fun s3 I3 => ⟨.bl ov.isSome, H2, I3, rfl, q2⟩
theorem pc_onotin (hu : X.A.units + 1 < cLine) (hi : PE X i ty) (ho : PE X o td) : PC X .NotIn i o (tONotIn X.prog X.w ty td) := by
  constructor
  intro pins s σ H Q I h
  refine thn (hi.run pins s σ H _ I h) ?_
  rintro iv s1 ⟨y, H1, I1, ry, q1⟩
  refine thn (ho.run pins s1 σ H1 _ I1 q1) ?_
  rintro u s2 ⟨x, H2, I2, rx, a, ov, rfl, g, q2⟩
  cases rx
  exact og_notIn hu I2 g ry fun s3 I3 => ⟨.bl (!ov.isSome), H2, I3, rfl, q2⟩
theorem ps_oput (hu : X.A.units + 1 < cLine) (ho : PE X o td) (hi : PE X i ty) (hv : PE X value tv) (hs : swapsWith value (some (.Subscript o i pos')) pos.line X.env = pure false) :
    PS X (.Assign [.Subscript o i pos'] value pos) (sOPut X.prog X.w td ty tv) := by
  constructor
  intro pins s σ H D I h
  refine wpAny_Assign_Subscript (thn (hv.run pins s σ H _ I h) ?_) hs
  rintro r s1 ⟨v, H1, I1, rv, q1⟩
  refine thn (ho.run pins s1 σ H1 _ I1 q1) ?_
  rintro u s2 ⟨x, H2, I2, rx, q2⟩
  refine thn (hi.run pins s2 σ H2 _ I2 q2) ?_
  rintro iv s3 ⟨y, H3, I3, ry, a, rfl, g⟩
  cases rx
  exact og_setItem hu I3 g ry rv fun H4 s4 q4 I4 => ⟨σ, H4, I4, q4⟩
theorem pe_oget2 (hu : X.A.units + 1 < cLine) (ho : PE X o td) (he : PE X e ty) (hf : PE X f tx) (m : M2 X o "get" apos e f cpos) : PE X (.Call (.Attribute o "get" apos) [e, f] [] cpos) (tOGet2 X.prog X.w td ty tx) := by
  constructor
  intro pins s σ H Q I h
  refine wpAny_Call_method m.base m.few m.line PySem.F.plainAttrs_dict PySem.F.slot_dict_get PySem.F.type_dict_get (thn (ho.run pins s σ H _ I h) ?_)
  rintro u s1 ⟨x, H1, I1, rx, a, rfl, ⟨_, _, g1⟩, q1⟩
  cases rx
  obtain ⟨t1, t2⟩ := og_at I1 g1
  refine ⟨t1, t2, ?_⟩
  rw [m.trees]
  refine Calls.callWith_builtin rfl (Calls.evalArgs_plain (Calls.spliced_cons (thn (he.run pins s1 σ H1 _ I1 q1) ?_)))
  rintro iv s2 ⟨y, H2, I2, ry, q2⟩
  refine Calls.spliced_cons (thn (hf.run pins s2 σ H2 _ I2 q2) ?_)
  rintro fv s3 ⟨z, H3, I3, rz, ov, g, q3⟩
  exact Calls.spliced_nil (og_get2 hu I3 g ry rz fun w' s4 I4 rw' => ⟨_, H3, I4, rw', q3⟩)

/-! {} -/
def tONew (P : Program) (w : World) : TE := fun _ H Q => ∀ p H', H p = none → H' p = some (NDo P w p []) → Same H H' → Q (.ref p) H'
def tPNew (P : Program) (w : World) : TE := fun _ H Q => ∀ p H', H p = none → PD P w H' p [] → Same H H' → Q (.ref p) H'
theorem ndo_empty {H : Hp} {h : Heap} {P : Program} {w : World} (hb : sysModules < h.objs.size) : ObjOk P w H (h.push { cls := .type "dict", data := .dict #[] }) h.objs.size (NDo P w h.objs.size []) := by
  refine ⟨⟨Nat.zero_le _, beq_eq_false_iff_ne.mpr (Ne.symm (Nat.ne_of_lt hb)), [], .nil, Heap.DictOf.new h⟩, ⟨_, Heap.get?_push_size _ rfl⟩, ?_⟩
  rintro h1 h2 ⟨z1, hd1, vs1, rel1, o1, es1, ep1, ho1, rest1⟩ st
  exact ⟨z1, hd1, vs1, rel1, o1, es1, ep1, st _ ho1, rest1⟩
theorem pdo_empty {H : Hp} {h : Heap} {P : Program} {w : World} (hb : sysModules < h.objs.size) : ObjOk P w H (h.push { cls := .type "dict", data := .dict #[] }) h.objs.size (PDo P w h.objs.size []) := by
  refine ⟨⟨Nat.zero_le _, beq_eq_false_iff_ne.mpr (Ne.symm (Nat.ne_of_lt hb)), [], .nil, _, #[], 0, Heap.get?_push_size _ rfl, ⟨rfl, rfl, rfl⟩, rfl, rfl, List.nodup_nil⟩, ⟨_, Heap.get?_push_size _ rfl⟩, ?_⟩
  rintro h1 h2 ⟨z1, hd1, vs1, rel1, o1, es1, ep1, ho1, rest1⟩ st
  exact ⟨z1, hd1, vs1, rel1, o1, es1, ep1, st _ ho1, rest1⟩
end
end GL

set_option Elab.async false
set_option linter.all false
set_option maxRecDepth 100000
set_option maxHeartbeats 2000000
/-! dict(pairs), whatever the keys are: the store is a letter. -/
namespace GL
open PySem PySem.Spec PyProof.Rows L2
section
variable {prog : Program} {w : World} {A : Around} {E : Value → Shared → Prop}
/-- how the new dict at S goes on, pair by pair: M tells of it behind so many of them -/
structure Fill (prog : Program) (w : World) (A : Around) (S : Addr) (prs : List (Value × Value)) (M : Nat → Heap → Prop) : Prop where
  keep : ∀ i h h' c, M i h → S < c → (∀ b o, b ≠ c → h.get? b = some o → h'.get? b = some o) → M i h'
  put : ∀ i p (s : Shared) (E : Value → Shared → Prop) (Q : Unit → Shared → Prop), prs[i]? = some p → M i s.heap → (∀ h' n, M (i + 1) h' → Heap.SameBut S s.heap h' → Q () { s with heap := h', toks := n }) →
    wpAny (model prog w) A (dictSet S p.1 p.2) Q E s
theorem fill_loop {R : Result → Shared → Prop} {S I l : Addr} {items : Array Value} {prs : List (Value × Value)} {M : Nat → Heap → Prop} {res : Value} (F : Fill prog w A.in1 S prs M) (hh : A.handled = none) (hlS : l < S) (hSI : S < I) (hsz : items.size = prs.length) :
    ∀ (left i : Nat) (ix : Int) (t : Tok) (s : Shared), i + left = prs.length →
      (∀ (j : Nat) (q : Value × Value), prs[j]? = some q → ∃ b : Addr, items[j]? = some (Value.ref b) ∧ b < S ∧ IsTup s.heap b #[q.1, q.2]) → s.heap.IsListIter I l i → s.heap.IsList l items → M i s.heap →
      (∀ h' tk, M prs.length h' → (∀ b o, b < S → s.heap.get? b = some o → h'.get? b = some o) → R (.ok (.ret res)) { s with heap := h', toks := tk }) →
      codeAny (model prog w) A (.builtin "dict.update.loop" ⟨[.ref S, .ref I, .int ix t, res], []⟩) R s
  | 0, i, ix, t, s, e, ht, hit, hl, m, hR => by
    have eI : i = prs.length := by omega
    subst eI
    refine codeAny_builtin ud_entry ?_
    rw [Around.under_plainId ud_plain _]
    show wpAny _ A.in1 (pyNext (.ref I) >>= _) _ _ s
    refine wpAny_bind (wpAny_pyNext_list_end (A := A.in1) hh hit hl (Array.getElem?_eq_none (Nat.le_of_eq hsz)) ?_)
    intro h' he
    show wpAny _ A.in1 (Builtin.Dict.addKeywords S [] >>= _) _ _ _
    refine wpAny_bind (wpAny_pure (wpAny_pure (hR h' s.toks ?_ ?_)))
    · exact F.keep _ _ _ I m hSI fun b o hb z => he b o hb z
    · exact fun b o hb z => he b o (Nat.ne_of_lt (Nat.lt_trans hb hSI)) z
  | left + 1, i, ix, t, s, e, ht, hit, hl, m, hR => by
    obtain ⟨q, hq⟩ : ∃ q, prs[i]? = some q := ⟨_, List.getElem?_eq_getElem (by omega)⟩
    obtain ⟨b, hb, hbS, htup⟩ := ht i q hq
    refine codeAny_builtin ud_entry ?_
    rw [Around.under_plainId ud_plain _]
    show wpAny _ A.in1 (pyNext (.ref I) >>= _) _ _ s
    refine wpAny_bind (wpAny_pyNext_list_item (x := .ref b) hit hl hb ?_)
    intro h1 hit1 hs1
    have x1 := hs1.extBut
    have ht1 : IsTup h1 b #[q.1, q.2] := htup.extBut x1 (Nat.ne_of_lt (Nat.lt_trans hbS hSI))
    have hl1 : h1.IsList l items := hl.extBut x1 (Nat.ne_of_lt (Nat.lt_trans hlS hSI))
    have m1 : M i h1 := F.keep _ _ _ I m hSI fun c o hc z => x1 c o hc z
    obtain ⟨o, ho, hc, n, hd⟩ := id ht1
    show wpAny _ A.in1 (holding [Value.ref b] _ >>= _) _ _ _
    refine wpAny_bind (wpAny_holding (wpAny_bind (wpAny_tryCatch ?_)))
    unfold Builtin.Dict.pairItems
    refine wpAny_bind (wpAny_typeOf (T := "tuple") ⟨o, ho, hc⟩ ?_)
    rw [if_pos (by first | decide | rfl | simp)]
    refine wpAny_bind (wpAny_seqItems ho hd (wpAny_pure ?_))
    show wpAny _ A.in1 (holding [q.1, q.2] (dictSet S q.1 q.2)) _ _ _
    refine wpAny_holding (F.put i q { s with heap := h1 } _ _ hq m1 ?_)
    intro h2 n2 m2 hs2
    have x2 := hs2.extBut
    refine wpAny_pure ⟨plainId_quiet ud_plain _, fill_loop F hh hlS hSI hsz left (i + 1) (ix + 1) 0 _ (by omega) ?_ ?_ ?_ m2 ?_⟩
    · intro j q' e'
      obtain ⟨b', hb', hbS', t'⟩ := ht j q' e'
      exact ⟨b', hb', hbS', (t'.extBut x1 (Nat.ne_of_lt (Nat.lt_trans hbS' hSI))).extBut x2 (Nat.ne_of_lt hbS')⟩
    · exact hit1.at fun o' z => x2 I o' (Nat.ne_of_gt hSI) z
    · exact hl1.extBut x2 (Nat.ne_of_lt hlS)
    · intro h' tk mm k
      exact hR h' tk mm fun c oc hcS z => k c oc hcS (x2 c oc (Nat.ne_of_lt hcS) (x1 c oc (Nat.ne_of_lt (Nat.lt_trans hcS hSI)) z))
/-- dict(l) of a list of pairs -/
theorem call_dict_fill {s : Shared} {l : Addr} {ol : Obj} {items : Array Value} {n : Nat} {prs : List (Value × Value)} {M : Nat → Heap → Prop} {Q : Value → Shared → Prop} (hh : A.handled = none) (hl : s.heap.get? l = some ol) (hc : ol.cls = .type "list")
    (hd : ol.dict = none) (hdat : ol.data = .seq items n) (hsz : items.size = prs.length) (ht : ∀ (j : Nat) (q : Value × Value), prs[j]? = some q → ∃ b : Addr, items[j]? = some (Value.ref b) ∧ IsTup s.heap b #[q.1, q.2])
    (F : Fill prog w A.in1.in1 s.heap.objs.size prs M ∧ Fill prog w A.in1 s.heap.objs.size prs M)
    (m0 : M 0 (s.heap.push { cls := .type "dict", data := .dict #[] }))
    (h : ∀ h' tk, M prs.length h' → (∀ b o, s.heap.get? b = some o → h'.get? b = some o) → Q (.ref s.heap.objs.size) { s with heap := h', toks := tk }) :
    wpAny (model prog w) A (call (.type "dict") [.ref l]) Q E s := by
  refine callType_codes (Q₁ := fun obj s₁ => obj = .ref s.heap.objs.size ∧ s₁ = { s with heap := s.heap.push { cls := .type "dict", data := .dict #[] } }) PySem.F.kt_called_dict (PySem.F.kt_typeCall_dict_1 _) PySem.F.entry_dict_init (kt_code_dict_new _ ⟨rfl, rfl⟩) ?_
  rintro obj s₁ ⟨rfl, rfl⟩
  have new : (s.heap.push { cls := .type "dict", data := .dict #[] }).get? s.heap.objs.size = some { cls := .type "dict", data := .dict #[] } := Heap.get?_push_size _ rfl
  have ty : ({ s with heap := s.heap.push { cls := .type "dict", data := .dict #[] } } : Shared).TypeIs (.ref s.heap.objs.size) "dict" := ⟨_, new, rfl⟩
  have k0 : ∀ b o, s.heap.get? b = some o → (s.heap.push { cls := .type "dict", data := .dict #[] }).get? b = some o := fun b o e => Heap.get?_push_of_some _ e
  refine ⟨ty, PySem.F.args_dict_init_2 _ _, ?_⟩
  unfold Builtin.«dict.__init__»
  refine wpAny_bind ?_
  unfold Builtin.Dict.selfAndRest
  refine wpAny_bind (wpAny_notOrdered_dict ty ?_)
  show wpAny _ _ (pure (s.heap.objs.size, [Value.ref l])) _ _ _
  refine wpAny_pure ?_
  show wpAny _ _ (Builtin.Dict.updateFrom "dict.__init__" s.heap.objs.size (.ref l) [] .none) _ _ _
  unfold Builtin.Dict.updateFrom
  refine wpAny_bind (wpAny_typeOf (T := "list") ⟨ol, k0 _ _ hl, hc⟩ ?_)
  rw [if_pos (by first | decide | rfl | simp)]
  refine wpAny_bind (miss_list (k0 _ _ hl) hc hdat hd hh ?_)
  intro h1 tk1 hk1
  rw [if_pos (show (none : Option Value).isNone = true from rfl)]
  refine wpAny_bind (wpAny_rule ?_)
  have hl1 : h1.IsList l items := ⟨ol, hk1 _ _ (k0 _ _ hl), hc, n, hdat⟩
  have hS1 : s.heap.objs.size < h1.objs.size := Heap.lt_size (hk1 _ _ new)
  refine wpAny_bind (wpAny_pyIter_list hl1 ?_)
  have k2 : ∀ b o, h1.get? b = some o → (h1.push { cls := .type "list_iterator", data := .fields #[.ref l, .int 0 0] }).get? b = some o := fun b o e => Heap.get?_push_of_some _ e
  have hlt : l < s.heap.objs.size := Heap.lt_size hl
  have m2 : M 0 (h1.push { cls := .type "list_iterator", data := .fields #[.ref l, .int 0 0] }) :=
    F.2.keep 0 _ _ h1.objs.size m0 hS1 fun b o _ e => k2 _ _ (hk1 _ _ e)
  have key := fill_loop (prog := prog) (w := w) (A := A.in1) (R := wants (fun r s₂ => r = .none ∧ Q (.ref s.heap.objs.size) s₂) E) (I := h1.objs.size) (res := Value.none) F.1 hh hlt hS1 hsz prs.length 0 0 0
    { s with heap := h1.push { cls := .type "list_iterator", data := .fields #[.ref l, .int 0 0] }, toks := tk1 } (by omega)
    (fun j q e => by
      obtain ⟨b, e1, e2⟩ := ht j q e
      exact ⟨b, e1, e2.lt, e2.keeps fun c o z => k2 _ _ (hk1 _ _ (k0 _ _ z))⟩)
    ⟨_, Heap.get?_push_size _ rfl, rfl, rfl⟩ (hl1.at fun o e => k2 _ _ e) m2
    (fun h' tk mm k => ⟨rfl, h h' tk mm fun b o e => k b o (Heap.lt_size e) (k2 _ _ (hk1 _ _ (k0 _ _ e)))⟩)
  first
    | exact wpAny_pure ⟨plainId_quiet ud_plain _, key⟩
    | exact wpAny_bind (wpAny_pure (wpAny_pure ⟨plainId_quiet ud_plain _, key⟩))
end
end GL

set_option Elab.async false
set_option linter.all false
set_option maxRecDepth 100000
set_option maxHeartbeats 2000000
namespace GL
open PySem PySem.Spec PyProof.Rows L2
/-- entries put one behind another -/
def puts {κ : Type} [DecidableEq κ] (acc : List (κ × V)) : List (κ × V) → List (κ × V)
  | [] => acc
  | kv :: r => puts (putK acc kv.1 kv.2) r
theorem puts_snoc {κ : Type} [DecidableEq κ] : ∀ (acc l : List (κ × V)) (kv : κ × V), puts acc (l ++ [kv]) = putK (puts acc l) kv.1 kv.2
  | _, [], _ => rfl
  | acc, x :: l, kv => puts_snoc (putK acc x.1 x.2) l kv
theorem puts_len {κ : Type} [DecidableEq κ] : ∀ (l acc : List (κ × V)), (puts acc l).length ≤ acc.length + l.length
  | [], acc => Nat.le_refl _
  | x :: l, acc => by
    have h1 := puts_len l (putK acc x.1 x.2)
    have h2 := length_putK acc x.1 x.2
    show (puts (putK acc x.1 x.2) l).length ≤ _
    simp only [List.length_cons]
    omega
theorem take_snoc {α : Type} {l : List α} {i : Nat} {x : α} (h : l[i]? = some x) : l.take (i + 1) = l.take i ++ [x] := by
  obtain ⟨hi, e⟩ := List.getElem?_eq_some_iff.mp h
  rw [← e]
  exact (List.take_append_getElem hi).symm
theorem is_keep {P : Program} {w : World} {h h' : Heap} {ks : List NK} {b : Addr} (i : (tupleKind (noneKind P w)).is h ks b) (k : ∀ o, h.get? b = some o → h'.get? b = some o) : (tupleKind (noneKind P w)).is h' ks b := by
  obtain ⟨o, its, n, h1, h2, h3, h4⟩ := i
  exact ⟨o, its, n, k _ h1, h2, h3, h4⟩
section
variable {X : Cx} {pins : List (Addr × Obj)} {σ : L2.St} {H : Hp} {s : Shared}
theorem vals_two {x y : V} {us : List Value} (r : Vals [x, y] us) : ∃ u v, us = [u, v] ∧ RelV x u ∧ RelV y v := by
  cases r with
  | cons h1 r => cases r with
    | cons h2 r =>
      cases r
      exact ⟨_, _, rfl, h1, h2⟩
/-- the pairs of a list as the machine has them -/
theorem prs_of {K : List (V × V)} {ps : List Addr} (I : L2.Inv X pins σ H s) (h : Paired (fun p kv => SqT X.K H p [kv.1, kv.2]) ps K) :
    ∃ prs : List (Value × Value), prs.length = ps.length ∧ Paired (fun kv q => RelV kv.1 q.1 ∧ RelV kv.2 q.2) K prs ∧
      ∀ (j : Nat) (q : Value × Value), prs[j]? = some q → ∃ b : Addr, (ps.map Value.ref)[j]? = some (Value.ref b) ∧ IsTup s.heap b #[q.1, q.2] := by
  induction h with
  | nil => exact ⟨[], rfl, .nil, fun j q e => by simp at e⟩
  | @cons p kv ps K h _ ih =>
    obtain ⟨prs, l, r, g⟩ := ih
    obtain ⟨its, rv, ht, _⟩ := I.tuple h
    obtain ⟨u, y, rfl, ru, ry⟩ := vals_two rv
    refine ⟨(u, y) :: prs, by simp [l], .cons ⟨ru, ry⟩ r, fun j q e => ?_⟩
    cases j with
    | zero =>
      cases e
      exact ⟨p, rfl, ht⟩
    | succ j =>
      obtain ⟨b, e1, e2⟩ := g j q (by simpa using e)
      exact ⟨b, by simpa using e1, e2⟩
theorem paired_at {α β : Type} {R : α → β → Prop} : ∀ {l : List α} {m : List β}, Paired R l m → ∀ {i : Nat} {y : β}, m[i]? = some y → ∃ x, l[i]? = some x ∧ R x y
  | _, _, .nil, _, _, e => by simp at e
  | _, _, .cons h t, 0, y, e => by cases e; exact ⟨_, rfl, h⟩
  | _, _, .cons h t, i + 1, y, e => by
    obtain ⟨x, e1, e2⟩ := paired_at t (i := i) (by simpa using e)
    exact ⟨x, by simpa using e1, e2⟩
/-- dict(l), keys None, numbers, texts -/
def rDictN (P : Program) (w : World) (K : PySem.W.Frag) : List V → Hp → VK → Prop := fun xs H Q => ∃ (a : Addr) (ps : List Addr) (kvs : List (NK × V)), xs = [.ref a] ∧ SqL K H a (ps.map V.ref) ∧
  Paired (fun p kv => SqT K H p [nV kv.1, kv.2]) ps kvs ∧ ∀ p H', H p = none → H' p = some (NDo P w p (puts [] kvs)) → Same H H' → Q (.ref p) H'
/-- dict(l), keys tuples of such -/
def rDictP (P : Program) (w : World) (K : PySem.W.Frag) : List V → Hp → VK → Prop := fun xs H Q => ∃ (a : Addr) (ps : List Addr) (kvs : List (List NK × Addr × V)), xs = [.ref a] ∧ SqL K H a (ps.map V.ref) ∧
  Paired (fun p kv => SqT K H p [.ref kv.2.1, kv.2.2] ∧ H kv.2.1 = some (.tup (kv.1.map nV))) ps kvs ∧
  ∀ p H', H p = none → PD P w H' p (puts [] (kvs.map fun x => (x.1, x.2.2))) → Same H H' → Q (.ref p) H'
theorem ref_list : ∀ {ps : List Addr} {us : List Value}, Vals (ps.map V.ref) us → us = ps.map Value.ref
  | [], us, r => by cases r; rfl
  | p :: ps, us, r => by
    cases r with
    | cons h t =>
      cases h
      exact congrArg _ (ref_list t)
theorem fresh_sys (I : L2.Inv X pins σ H s) : (s.heap.objs.size == sysModules) = false := beq_eq_false_iff_ne.mpr (Nat.ne_of_gt I.big)
theorem call_dictN (hc : X.calm = true) : CallR X (.type "dict") (rDictN X.prog X.w X.K) := by
  intro pins s σ H xs us Q I r q
  obtain ⟨a, ps, kvs, rfl, hq, hp, q⟩ := q
  cases r with
  | cons rx r2 =>
    cases r2
    cases rx
    obtain ⟨its, rv, pl, hz⟩ := I.list hq
    cases ref_list rv
    rw [List.length_map] at hz
    have hp' : Paired (fun p (kv : V × V) => SqT X.K H p [kv.1, kv.2]) ps (kvs.map fun kv => (nV kv.1, kv.2)) := by
      clear q hq hz rv pl
      induction hp with
      | nil => exact .nil
      | cons h _ ih => exact .cons h ih
    obtain ⟨prs, lp, rel, g⟩ := prs_of I hp'
    obtain ⟨o, n, ho, hcl, hd, hdat⟩ := pl
    have lk : kvs.length = prs.length := by have := Paired.length rel; rw [List.length_map] at this; exact this
    have fill : ∀ A, Fill X.prog X.w A s.heap.objs.size prs (fun i h => ∃ vs, KV (puts [] (kvs.take i)) vs ∧ h.DictOf (noneKind X.prog X.w) s.heap.objs.size vs) := by
      intro A
      refine ⟨?_, ?_⟩
      · rintro i h h' c ⟨vs, k1, k2⟩ hc' keep
        exact ⟨vs, k1, k2.at fun o e => keep _ o (Nat.ne_of_lt hc') e⟩
      · rintro i p s1 E1 Q1 hp1 ⟨vs, k1, k2⟩ hq1
        obtain ⟨x, hx, r1, r2⟩ := paired_at rel hp1
        rw [List.getElem?_map] at hx
        obtain ⟨kv, hkv, rfl⟩ := Option.map_eq_some_iff.mp hx
        have l1 := puts_len (kvs.take i) ([] : List (NK × V))
        have l2 : (kvs.take i).length ≤ kvs.length := by rw [List.length_take]; omega
        refine wpAny_dictSet_pairs (hsz := by rw [← k1.length]; simp only [List.length_nil] at l1; omega) (nV_is r1) k2 fun h' dd hs => hq1 h' _ ⟨_, ?_, dd⟩ hs
        rw [take_snoc hkv, puts_snoc]
        exact k1.put kv.1 r2
    refine call_dict_fill (I.ok.hd hc) ho hcl hd hdat (by simp [lp]) (fun j q e => by simpa using g j q e) ⟨fill _, fill _⟩ ⟨[], .nil, Heap.DictOf.new s.heap⟩ fun h' tk m keep => ?_
    obtain ⟨vs, k1, k2⟩ := m
    rw [← lk, List.take_length] at k1
    have l1 := puts_len kvs ([] : List (NK × V))
    have free := I.hok.fresh (Nat.le_refl s.heap.objs.size)
    refine ⟨.ref s.heap.objs.size, upd H s.heap.objs.size (NDo X.prog X.w s.heap.objs.size (puts [] kvs)), I.laid (t' := tk) keep (Nat.le_refl _) (nd_put (by simp only [List.length_nil] at l1; omega) (fresh_sys I) k1 k2), rfl, q _ _ free upd_same (same_new (Same.refl' H) free)⟩
theorem call_dictP' (hc : X.calm = true) (hu : X.A.units + 4 < cLine) : CallR X (.type "dict") (rDictP X.prog X.w X.K) := by
  intro pins s σ H xs us Q I r q
  obtain ⟨a, ps, kvs, rfl, hq, hp, q⟩ := q
  cases r with
  | cons rx r2 =>
    cases r2
    cases rx
    obtain ⟨its, rv, pl, hz⟩ := I.list hq
    cases ref_list rv
    rw [List.length_map] at hz
    have hp' : Paired (fun p (kv : V × V) => SqT X.K H p [kv.1, kv.2]) ps (kvs.map fun kv => (V.ref kv.2.1, kv.2.2)) := by
      clear q hq hz rv pl
      induction hp with
      | nil => exact .nil
      | cons h _ ih => exact .cons h.1 ih
    have ht : ∀ kv ∈ kvs, H kv.2.1 = some (.tup (kv.1.map nV)) := by
      clear q hq hz rv pl hp'
      induction hp with
      | nil => intro kv h; cases h
      | cons h _ ih =>
        intro kv hkv
        rcases List.mem_cons.mp hkv with rfl | hkv
        · exact h.2
        · exact ih kv hkv
    obtain ⟨prs, lp, rel, g⟩ := prs_of I hp'
    obtain ⟨o, n, ho, hcl, hd, hdat⟩ := pl
    have lk : kvs.length = prs.length := by have := Paired.length rel; rw [List.length_map] at this; exact this
    have old : ∀ b ys, H b = some (.tup ys) → b < s.heap.objs.size := fun b ys e => I.hok.lt e
    have fill : ∀ A : Around, A.units < cLine → Fill X.prog X.w A s.heap.objs.size prs (fun i h => (∀ kv ∈ kvs, (tupleKind (noneKind X.prog X.w)).is h kv.1 kv.2.1) ∧
        ∃ xs ys, xs.map (fun x => (x.1, x.2.2)) = puts [] ((kvs.take i).map fun x => (x.1, x.2.2)) ∧ (∀ x ∈ xs, H x.2.1 = some (.tup (x.1.map nV))) ∧ PR xs ys ∧ h.DictOfH (tupleKind (noneKind X.prog X.w)) s.heap.objs.size ys) := by
      intro A hA
      refine ⟨?_, ?_⟩
      · rintro i h h' c ⟨k0, xs, ys, k1, k2, k3, ob, es, ep, e1, e2, e3, e4, e5, e6⟩ hc' keep
        refine ⟨fun kv hkv => is_keep (k0 kv hkv) fun o e => keep _ o (Nat.ne_of_lt (Nat.lt_trans (old _ _ (ht kv hkv)) hc')) e, xs, ys, k1, k2, k3, ob, es, ep, keep _ _ (Nat.ne_of_lt hc') e1, e2, e3, e4, ?_, e6⟩
        have go : ∀ {xs : List PE3} {ys : List (List NK × Addr × Value)}, PR xs ys → (∀ x ∈ xs, H x.2.1 = some (.tup (x.1.map nV))) → ∀ y ∈ ys, y.2.1 < s.heap.objs.size := by
          intro xs ys q
          unfold PR at q
          induction q with
          | nil => intro _ y hy; cases hy
          | @cons p q ps qs h1 _ ih =>
            intro ht2 y hy
            rcases List.mem_cons.mp hy with rfl | hy
            · rw [← h1.2.1]; exact old _ _ (ht2 p (List.mem_cons_self ..))
            · exact ih (fun x hx => ht2 x (List.mem_cons_of_mem _ hx)) y hy
        exact fun y hy => is_keep (e5 y hy) fun o e => keep _ o (Nat.ne_of_lt (Nat.lt_trans (go k3 k2 y hy) hc')) e
      · rintro i p s1 E1 Q1 hp1 ⟨k0, xs, ys, k1, k2, k3, k4⟩ hq1
        obtain ⟨x, hx, r1, r2⟩ := paired_at rel hp1
        rw [List.getElem?_map] at hx
        obtain ⟨kv, hkv, rfl⟩ := Option.map_eq_some_iff.mp hx
        have mem := List.mem_of_getElem? hkv
        have l1 := puts_len ((kvs.take i).map fun x => (x.1, x.2.2)) ([] : List (List NK × V))
        have l2 : ((kvs.take i).map fun x => (x.1, x.2.2)).length ≤ kvs.length := by rw [List.length_map, List.length_take]; omega
        have l3 : xs.length = (puts [] ((kvs.take i).map fun x => (x.1, x.2.2))).length := by rw [← k1, List.length_map]
        have l4 := Paired.length k3
        obtain ⟨p1, p2⟩ := p
        cases (show p1 = Value.ref kv.2.1 from r1)
        refine wpAny_dictSet_heap (hsz := by simp only [List.length_nil] at l1; omega) hA (k0 kv mem) k4 fun h' dd hs => hq1 h' _ ⟨fun kv' hkv' => is_keep (k0 kv' hkv') fun o e => hs.extBut _ o (Nat.ne_of_lt (old _ _ (ht kv' hkv'))) e, putE xs kv.1 kv.2.1 kv.2.2, _, ?_, putE_tups k2 (ht kv mem), k3.put kv.1 r2, dd⟩ hs
        rw [putE_kvs, k1, take_snoc hkv, List.map_append, List.map_cons, List.map_nil, puts_snoc]
    refine call_dict_fill (I.ok.hd hc) ho hcl hd hdat (by simp [lp]) (fun j q e => by simpa using g j q e) ⟨fill _ (by show X.A.units + 1 + 1 < cLine; omega), fill _ (by show X.A.units + 1 < cLine; omega)⟩ ⟨fun kv hkv => ?_, [], [], rfl, (fun x hx => by cases hx), .nil, Heap.DictOfH.new s.heap⟩ fun h' tk m keep => ?_
    · exact is_keep (nkey_of I (ht kv hkv)) fun o e => Heap.get?_push_of_some _ e
    obtain ⟨_, xs, ys, k1, k2, k3, k4⟩ := m
    rw [← lk, List.take_length] at k1
    have l1 := puts_len (kvs.map fun x => (x.1, x.2.2)) ([] : List (List NK × V))
    have l3 : xs.length = (puts [] (kvs.map fun x => (x.1, x.2.2))).length := by rw [← k1, List.length_map]
    have free := I.hok.fresh (Nat.le_refl s.heap.objs.size)
    refine ⟨.ref s.heap.objs.size, upd H s.heap.objs.size (PDo X.prog X.w s.heap.objs.size xs), I.laid (t' := tk) keep (Nat.le_refl _) (pdo_put (by simp only [List.length_nil, List.length_map] at l1; omega) (fresh_sys I) k3 k4), rfl,
      q _ _ free ⟨xs, upd_same, k1, fun x hx => ?_⟩ (same_new (Same.refl' H) free)⟩
    rw [upd_ne (ne_of_none (k2 x hx) free)]
    exact k2 x hx
/-- {} -/
theorem pe_onew {pos : Pos} : PE X (.Dict [] [] pos) (tONew X.prog X.w) := by
  constructor
  intro pins s σ H Q I h
  have free := I.hok.fresh (Nat.le_refl s.heap.objs.size)
  exact wpAny_Dict_empty ⟨.ref s.heap.objs.size, _, I.laid (t' := s.toks) (fun _ _ q => Heap.get?_push_of_some _ q) (Nat.le_refl _) (ndo_empty I.big), rfl, h _ _ free upd_same (same_new (Same.refl' H) free)⟩
theorem pe_pnew {pos : Pos} : PE X (.Dict [] [] pos) (tPNew X.prog X.w) := by
  constructor
  intro pins s σ H Q I h
  have free := I.hok.fresh (Nat.le_refl s.heap.objs.size)
  exact wpAny_Dict_empty ⟨.ref s.heap.objs.size, _, I.laid (t' := s.toks) (fun _ _ q => Heap.get?_push_of_some _ q) (Nat.le_refl _) (pdo_empty I.big), rfl, h _ _ free ⟨[], upd_same, rfl, fun x hx => by cases hx⟩ (same_new (Same.refl' H) free)⟩
end
end GL

set_option Elab.async false
set_option linter.all false
set_option maxRecDepth 100000
set_option maxHeartbeats 4000000
/-! Dict comprehensions that make such dicts. -/
namespace GL
open PySem PySem.Spec PyProof.Rows L2

/-- the new dict's object as it is told -/
structure Starts (P : Program) (w : World) (N : Addr → HO) : Prop where
  ok : ∀ (H : Hp) (h : Heap), sysModules < h.objs.size → ObjOk P w H (h.push { cls := .type "dict", data := .dict #[] }) h.objs.size (N h.objs.size)
theorem starts_n {P : Program} {w : World} : Starts P w (fun a => NDo P w a []) := ⟨fun _ _ hb => ndo_empty hb⟩
theorem starts_p {P : Program} {w : World} : Starts P w (fun a => PDo P w a []) := ⟨fun _ _ hb => pdo_empty hb⟩
/-- what a turn that lets its item asks -/
abbrev OcTurn (P : Program) (w : World) (D : Addr) (σ : L2.St) (vs : List Nat) (g : TG) (tt : TT) (tk tv : TE) (x : V) (H : Hp) (Nx : Hp → Prop) : Prop :=
  g x (wipe σ vs) H fun σ2 H2 => wipe σ2 vs = wipe σ vs ∧ tt σ2 H2 fun b H3 => if b = true then tk σ2 H3 fun y H4 => tv σ2 H4 fun z H5 => OPut P w H5 D y z Nx else Nx H3
def tOc (P : Program) (w : World) (N : Addr → HO) (wi : TI) (g : TG) (tt : TT) (tk tv : TE) (vs : List Nat) : TE := fun σ H Q =>
  wi σ H fun J H1 => ∀ D H2, H1 D = none → H2 D = some (N D) → Same H1 H2 → ∃ Wl : Nat → Nat → Hp → Prop, (∃ m, Wl 0 m H2) ∧ ∀ i m H, Wl i m H →
    (J.stop i H ∧ Q (.ref D) H) ∨ (J.go i H ∧ ∃ Nx : Hp → Prop, (∀ H', Nx H' → ∃ m', m' < m ∧ Wl (i + 1) m' H') ∧ ∀ x H', J.yld i H x H' → OcTurn P w D σ vs g tt tk tv x H' Nx)

section
variable {X : Cx}
/-- a clause of a comprehension, told of all blocks that stand for it -/
structure Block (X : Cx) (kx vx tg iter : Expr) (ifs : List Expr) (scope : Scope) (own : List (Str × Nat)) (wi : TI) (g : TG) (tt : TT) (tk tv : TE) : Prop where
  calm : X.calm = true
  nd : X.N.Nodup
  it : PI X tg iter wi
  blk : BlkOk X.N X.env.scope scope own
  tg : ∀ s H C cl fp, PG (X.blk s H scope (compEnvC scope cl C X.env) fp) tg g
  ifs : ∀ s H C cl fp, PTs (X.blk s H scope (compEnvC scope cl C X.env) fp) ifs tt
  key : ∀ s H C cl fp, PE (X.blk s H scope (compEnvC scope cl C X.env) fp) kx tk
  val : ∀ s H C cl fp, PE (X.blk s H scope (compEnvC scope cl C X.env) fp) vx tv
  fold : ∀ x, foldedSetIterable iter X.env x = pure x
  room : X.A.units < cLine

theorem oc_core {pins : List (Addr × Obj)} {s : Shared} {σ : L2.St} {H : Hp} {Q : VK} {kx vx tg iter : Expr} {ifs : List Expr} {scope : Scope} {own : List (Str × Nat)} {pos pos' : Pos} {wi : TI} {g : TG} {tt : TT} {tk tv : TE}
    {use : Option (Value → Sem Unit)} {Qf : Value → Shared → Prop} {N : Addr → HO} (B : Block X kx vx tg iter ifs scope own wi g tt tk tv) (S : Starts X.prog X.w N) (I : L2.Inv X pins σ H s)
    (h : tOc X.prog X.w N wi g tt tk tv (own.map (·.2)) σ H Q)
    (back : ∀ D C s' m H', L2.Inv X pins σ H' s' → Q (.ref D) H' → s'.heap.Ns C m → FpOk X pins H' C → compPost (model X.prog X.w) X.A X.xe use Qf (.ref D) C (.ok .next) s') :
    wpAny (model X.prog X.w) X.A (comprehension (.DictComp kx vx [⟨tg, iter, ifs, 0⟩] scope pos) scope X.env pos' newDict false (eval iter X.env) use) Qf X.xe s := by
  have seen : ∀ y ∈ scope.names, y.2 = .free → ∃ c, X.env.cells.lookup y.1 = some c := by
    intro y hy e
    exact I.ok.has _ (B.blk.free y hy e)
  refine wpAny_comprehension_free (use := use) rfl B.fold (closure_ok seen) B.blk.kind (fun y hy e => by rw [B.blk.uniq y hy, e]) ?_
  refine thn (B.it.run pins s σ H _ I h) ?_
  intro xv s1 hx
  refine thn hx ?_
  rintro itv s2 ⟨it, fp, tn, J, H2, rfl, I2, T, st2, f2, q⟩
  refine wpAny_newObj_type (newEnv_comp ?_)
  -- the new dict stands at D
  obtain ⟨D, eD⟩ : ∃ D, D = s2.heap.objs.size := ⟨_, rfl⟩
  rw [← eD]
  have free : H2 D = none := I2.hok.fresh (Nat.le_of_eq eD.symm)
  generalize es3' : ({ s2 with heap := s2.heap.push { cls := .type "dict", data := .dict #[] } } : Shared) = s3
  have es3 := es3'.symm
  obtain ⟨H3, eH3⟩ : ∃ H3, H3 = upd H2 D (N D) := ⟨_, rfl⟩
  have at3 : H3 D = some (N D) := by rw [eH3]; exact upd_same
  have sm3 : Same H2 H3 := by rw [eH3]; exact same_new (Same.refl' H2) free
  obtain ⟨Wl, ⟨m0, w0⟩, turn⟩ := q D H3 free at3 sm3
  have hp3 : s3.heap = s2.heap.push { cls := .type "dict", data := .dict #[] } := by rw [es3]
  have I3 : L2.Inv X pins σ H3 s3 := by
    rw [eH3, es3, eD]
    exact I2.laid (t' := s2.toks) (fun b o e => Heap.get?_push_of_some _ e) (Nat.le_refl _) (S.ok _ _ I2.big)
  have old : ∀ b ∈ fp, b < s2.heap.objs.size := by
    intro b hb
    obtain ⟨o, e, _⟩ := T.obj _ _ st2 b hb
    exact Heap.lt_size e
  have f3 : ∀ b ∈ fp, FpOk X pins H3 b ∧ b < s3.heap.objs.size := by
    intro b hb
    refine ⟨⟨?_, (f2 b hb).2⟩, ?_⟩
    · rw [eH3, upd_ne (by rw [eD]; exact Nat.ne_of_lt (old b hb))]
      exact (f2 b hb).1
    · rw [hp3, Heap.size_push]
      exact Nat.lt_succ_of_lt (old b hb)
  have st3 : tn 0 s3.heap := by
    rw [hp3]
    exact T.keep _ _ _ st2 fun b _ o e => Heap.get?_push_of_some _ e
  have I4 := block_start I3 B.blk B.nd f3
  obtain ⟨ce, ece⟩ : ∃ ce, ce = compEnvC scope (cellsFrom (s3.heap.objs.size + 1) scope.names (cloFrom X.env.cells scope.names [])) s3.heap.objs.size X.env := ⟨_, rfl⟩
  have pg : PG (X.blk s3 H3 scope ce fp) tg g := by rw [ece]; exact B.tg ..
  have pt : PTs (X.blk s3 H3 scope ce fp) ifs tt := by rw [ece]; exact B.ifs ..
  have pk : PE (X.blk s3 H3 scope ce fp) kx tk := by rw [ece]; exact B.key ..
  have pv : PE (X.blk s3 H3 scope ce fp) vx tv := by rw [ece]; exact B.val ..
  have cL : ce.locals = s3.heap.objs.size := by rw [ece]; rfl
  rw [← ece] at I4
  show codeAny _ _ (.compStart (.DictComp kx vx [⟨tg, iter, ifs, 0⟩] scope pos) 0 (.ref it) (.ref D) (compEnvC scope (cellsFrom (s3.heap.objs.size + 1) scope.names (cloFrom X.env.cells scope.names [])) s3.heap.objs.size X.env))
    (compPost (model X.prog X.w) X.A X.xe use Qf (.ref D) s3.heap.objs.size) { s3 with heap := pushCells (s3.heap.push { cls := .type "dict", data := .dict #[] }) scope.names }
  rw [← ece]
  obtain ⟨s4, es4⟩ : ∃ s4 : Shared, s4 = { s3 with heap := pushCells (s3.heap.push { cls := .type "dict", data := .dict #[] }) scope.names } := ⟨_, rfl⟩
  rw [← es4] at I4 ⊢
  have st4 : tn 0 s4.heap := by
    rw [es4]
    exact T.keep _ _ _ st3 fun b _ o e => pushCells_keeps _ _ _ _ (Heap.get?_push_of_some _ e)
  have nfp : ∀ b ∈ fp, H3 b = none := fun b hb => (f3 b hb).1.1
  have ownIt : ∀ {σ' : L2.St} {H' : Hp} {s' : Shared}, L2.Inv (X.blk s3 H3 scope ce fp) [] σ' H' s' → (∀ b ∈ fp, H' b = none) → ∀ b ∈ fp, FpOk (X.blk s3 H3 scope ce fp) [] H' b := by
    intro σ' H' s' I' n b hb
    refine ⟨n b hb, (I'.ok.exf b hb).1, I'.ok.exfs b hb, .inl hb, fun x c e => (I'.ok.exf b hb).2 x c e, fun p hp => ?_⟩
    exact absurd (show p ∈ ([] : List (Addr × Obj)) ++ [] from hp) (by simp)
  have loop : codeAny (model X.prog X.w) X.A (.compLoop (.DictComp kx vx [⟨tg, iter, ifs, 0⟩] scope pos) 0 (.ref it) (.ref D) ce) (compPost (model X.prog X.w) X.A X.xe use Qf (.ref D) s3.heap.objs.size) s4 := by
    refine compLoop_anyD (fun n s' => ∃ i H', L2.Inv (X.blk s3 H3 scope ce fp) [] (wipe σ (own.map (·.2))) H' s' ∧ tn i s'.heap ∧ (∀ b ∈ fp, H' b = none) ∧ Wl i n H') ?_ m0 ⟨0, H3, I4, st4, nfp, w0⟩
    rintro n s5 ⟨i, H5, I5, st5, n5, w5⟩
    rcases turn i n H5 w5 with ⟨stop, qq⟩ | ⟨go, Nx, hNx, step⟩
    · refine thnF (T.done (X.blk s3 H3 scope ce fp) rfl rfl rfl B.calm i [] s5 _ H5 (fun _ _ => False) I5 (ownIt I5 n5) st5 stop) ?_
      rintro r s6 ⟨rfl, I6⟩
      have I7 : L2.Inv X pins σ H5 s6 := by
        refine I3.call' (ch := fp) I6.os I6.base I6.hok I6.bare fun b hb => ?_
        obtain ⟨⟨_, b1, b2, b3, b4, b5⟩, _⟩ := f3 b hb
        exact ⟨b3, b1, b4, b5⟩
      have nC : H5 s3.heap.objs.size = none := by
        have z : H5 ce.locals = none := I6.free
        exact cL ▸ z
      obtain ⟨m, hn, _⟩ := I6.loc
      have hn : s6.heap.Ns ce.locals m := hn
      rw [cL] at hn
      exact back D _ s6 m H5 I7 qq hn (I3.fpOk (Nat.le_refl _) nC)
    · refine thnF (T.item (X.blk s3 H3 scope ce fp) rfl rfl rfl B.calm i [] s5 _ H5 (fun _ _ => False) I5 (ownIt I5 n5) st5 go) ?_
      rintro r s6 ⟨u, rfl, h6⟩
      refine thnF h6 ?_
      rintro _ s7 ⟨x, H7, I7, r7, y7, st7, n7⟩
      refine thnF (pg.run _ s7 _ H7 x u _ (I7.pinned (ownIt I7 n7) (T.obj _ _ st7)) r7 (step x H7 y7)) ?_
      rintro _ s8 ⟨σ8, H8, I8, hw8, q8⟩
      refine thnF (pt.run _ s8 σ8 H8 _ I8 q8) ?_
      rintro b s9 ⟨H9, I9, q9⟩
      have fin : ∀ {s' : Shared} {H' : Hp}, L2.Inv (X.blk s3 H3 scope ce fp) ([] ++ pinsAt fp s7.heap) σ8 H' s' → Nx H' →
          ∃ m, m < n ∧ ∃ i H', L2.Inv (X.blk s3 H3 scope ce fp) [] (wipe σ (own.map (·.2))) H' s' ∧ tn i s'.heap ∧ (∀ b ∈ fp, H' b = none) ∧ Wl i m H' := by
        intro s' H' I' nx
        obtain ⟨m', hm, w'⟩ := hNx H' nx
        have pin : ∀ b ∈ fp, ∀ o, s7.heap.get? b = some o → s'.heap.get? b = some o ∧ H' b = none := by
          intro b hb o e
          have z := I'.pin (b, o) (List.mem_append_right _ (List.mem_append_right _ (mem_pinsAt hb e)))
          exact ⟨z.1, z.2.1⟩
        refine ⟨m', hm, i + 1, H', (I'.unpinned (pins := [])).weak (by rw [← hw8, wipe_length]) ?_, ?_, ?_, w'⟩
        · intro j v e
          rw [← hw8] at e
          exact (wipe_some e).1
        · exact T.keep _ _ _ st7 fun b hb o e => (pin b hb o e).1
        · intro b hb
          obtain ⟨o, e, _⟩ := T.obj _ _ st7 b hb
          exact (pin b hb o e).2
      cases b with
      | false =>
        simp only [Bool.false_eq_true, if_false] at q9 ⊢
        exact fin I9 q9
      | true =>
        simp only [if_true] at q9 ⊢
        refine thnF (pk.run _ s9 σ8 H9 _ I9 q9) ?_
        rintro z s10 ⟨yk, H10, I10, r10, q10⟩
        refine thnF (pv.run _ s10 σ8 H10 _ I10 q10) ?_
        rintro z2 s11 ⟨yv, H11, I11, r11, put⟩
        exact og_dictSet (X := X.blk s3 H3 scope ce fp) B.room I11 put r10 r11 fun H12 s12 nx I12 => fin I12 nx
  exact codeAny_compStart_dict loop (T.self X.A 0 _ _ _ st4 loop)

/-- as a value -/
theorem pe_oc {kx vx tg iter : Expr} {ifs : List Expr} {scope : Scope} {own : List (Str × Nat)} {pos : Pos} {wi : TI} {g : TG} {tt : TT} {tk tv : TE} {N : Addr → HO} (B : Block X kx vx tg iter ifs scope own wi g tt tk tv) (S : Starts X.prog X.w N) :
    PE X (.DictComp kx vx [⟨tg, iter, ifs, 0⟩] scope pos) (tOc X.prog X.w N wi g tt tk tv (own.map (·.2))) := by
  constructor
  intro pins s σ H Q I h
  rw [arm_eval_DictComp]
  refine oc_core B S I h ?_
  intro D C s' m H' I' q hn f
  refine ⟨m, hn, fun h'' sb => ?_⟩
  obtain ⟨f0, f1, f2, f3, f4, f5⟩ := f
  exact ⟨.ref D, H', I'.turned (t' := s'.toks) (fun b o hb e => (sb.2 b hb).trans e) f0 f1 f3 f4 f5, rfl, q⟩
/-- y = {..}, y a local -/
theorem ps_setOc {i : Nat} {y : Str} {py : Pos} {kx vx tg iter : Expr} {ifs : List Expr} {scope : Scope} {own : List (Str × Nat)} {pos spos : Pos} {wi : TI} {g : TG} {tt : TT} {tk tv : TE} {N : Addr → HO} (hy : X.N[i]? = some y)
    (hyl : X.env.scope.names.lookup y = some .local) (hsw : swapsWith (.DictComp kx vx [⟨tg, iter, ifs, 0⟩] scope pos) (some (.Name y py)) spos.line X.env = pure true) (B : Block X kx vx tg iter ifs scope own wi g tt tk tv) (S : Starts X.prog X.w N) :
    PS X (.Assign [.Name y py] (.DictComp kx vx [⟨tg, iter, ifs, 0⟩] scope pos) spos) (tAsg (tOc X.prog X.w N wi g tt tk tv (own.map (·.2))) (gName i)) := by
  constructor
  intro pins s σ H D I h
  rw [exec_Assign_Name_used _ _ _ _ hsw]
  refine wpAny_bind (wpAny_standAt (wpAny_bind ?_))
  show wpAny _ X.A (do let _ ← comprehension (.DictComp kx vx [⟨tg, iter, ifs, 0⟩] scope pos) scope X.env (firstIterPos [⟨tg, iter, ifs, 0⟩] pos) newDict false (eval iter X.env) (some (assign (.Name y py) X.env))) _ _ s
  have h' : tOc X.prog X.w N wi g tt tk tv (own.map (·.2)) σ H (fun x H1 => gName i x σ H1 D.nx) := h
  refine wpAny_bind (thn (oc_core (Qf := fun _ s' => SP X pins D .next s') B S I h' ?_) fun _ s' hq => wpAny_pure (wpAny_pure hq))
  intro L C s' m H' I' q hn f
  show wpAny _ _ (assign (.Name y py) X.env (.ref L)) _ _ _
  refine wpAny_assign_Name (store_ok2 (v := V.ref L) I' B.nd hy (.inl hyl) rfl ?_ (.inr hyl))
  rintro s2 I2 ⟨a, sb, ha⟩
  obtain ⟨f0, f1, f2, f3, f4, f5⟩ := f
  have haC : C ≠ a := by
    rcases ha with z | z
    · rw [z]; exact f1
    · exact fun e => f4 y a z e.symm
  refine ⟨m, hn.sameBut sb haC, fun h3 sb3 => ⟨_, H', I2.turned (t' := s2.toks) (fun b o hb e => (sb3.2 b hb).trans e) f0 f1 f3 f4 f5, q⟩⟩
end
end GL

set_option Elab.async false
set_option linter.all false
set_option maxRecDepth 100000
set_option maxHeartbeats 4000000
/-! == of two dicts whose keys are tuples, whose values are numbers. -/
namespace GL
open PySem PySem.Spec PyProof.Rows L2
def numOf : Value → Int
  | .int i _ => i
  | _ => 0
section
variable {prog : Program} {w : World} {K : Type} [DecidableEq K] {knd : HeapKind prog w K} {A : Around} {E : Value → Shared → Prop} {s : Shared}
def hitH (ys : List (K × Addr × Value)) (x : K × Addr × Value) : Bool := match atKey ys x.1 with
  | some p => numOf x.2.2 == numOf p.2
  | none => false
theorem same_heap {nm : String} {a b : Addr} {xs ys : List (K × Addr × Value)} {Q : Bool → Shared → Prop} (hu : knd.room A) (ha : (a == sysModules) = false) (hb : (b == sysModules) = false)
    (da : s.heap.DictOfH knd a xs) (db : s.heap.DictOfH knd b ys) (na : ∀ x ∈ xs, ∃ i t, x.2.2 = .int i t) (nb : ∀ y ∈ ys, ∃ i t, y.2.2 = .int i t)
    (h : Q (xs.length == ys.length && xs.all (hitH ys)) s) : wpAny (model prog w) A (Builtin.Dict.samePairs nm a b) Q E s := by
  obtain ⟨oa, es, ep, hoa, _, hda, hea, hia, hna⟩ := da
  obtain ⟨ob, fs, ep', hob, _, hdb, heb, hib, hnb⟩ := db
  have la : es.size = xs.length := size_of_entries hea
  have lb : fs.size = ys.length := size_of_entries heb
  unfold Builtin.Dict.samePairs Builtin.Dict.showsAll
  rw [if_neg (by rw [ha]; exact Bool.false_ne_true), if_neg (by rw [hb]; exact Bool.false_ne_true)]
  refine wpAny_bind (wpAny_pure (wpAny_bind (wpAny_pure (wpAny_bind (wpAny_dictEntries hoa hda ?_)))))
  dsimp only
  refine wpAny_bind (wpAny_dictEntries hob hdb ?_)
  by_cases hsz : es.size = fs.size
  · have e1 : (xs.length == ys.length) = true := by rw [← la, ← lb, hsz]; simp
    rw [e1, Bool.true_and] at h
    rw [if_neg (by rw [hsz]; simp)]
    refine wpAny_bind (wpAny_dictEpoch hoa hda (wpAny_bind ?_))
    rw [Std.Legacy.Range.forIn_eq_forIn_range']
    simp only [Std.Legacy.Range.size, Nat.sub_zero, Nat.add_sub_cancel, Nat.div_one]
    refine wpAny_forIn_list _ (fun rest q s' => s' = s ∧ q = (none, ()) ∧ ∃ i, rest = List.range' i (es.size - i) ∧ i ≤ es.size ∧ (xs.take i).all (hitH ys) = true) _ ?_ ?_ _ _ ⟨rfl, rfl, 0, by simp, Nat.zero_le _, rfl⟩
    · rintro x rest q s' ⟨rfl, rfl, i, hr, hi, pre⟩
      have lt : i < es.size := by
        apply Nat.lt_of_not_le
        intro c
        rw [Nat.sub_eq_zero_of_le c] at hr
        cases hr
      have step : es.size - i = (es.size - (i + 1)) + 1 := by omega
      rw [step, List.range'_succ] at hr
      injection hr with hx hrest
      subst hx
      have ltx : x < xs.length := by omega
      have ex : xs[x]? = some xs[x] := List.getElem?_eq_getElem ltx
      have een : es[x]? = some (entryOfKey knd xs[x]) := by rw [entry_at hea, ex]; rfl
      refine wpAny_bind (wpAny_dictEntries hoa hda ?_)
      rw [een]
      obtain ⟨q0, hkv⟩ : ∃ q0, xs[x] = q0 := ⟨_, rfl⟩
      have mem : q0 ∈ xs := hkv ▸ List.getElem_mem ltx
      rw [hkv] at ex ⊢
      obtain ⟨k, ad, v⟩ := q0
      obtain ⟨n1, t1, ev⟩ := na _ mem
      dsimp only at ev
      subst ev
      show wpAny _ _ (holding [Value.ref ad, Value.int n1 t1] _ >>= _) _ _ _
      have nextOk : (hitH ys (k, ad, .int n1 t1)) = true → (xs.take (x + 1)).all (hitH ys) = true := by
        intro c
        rw [take_snoc (x := (k, ad, .int n1 t1)) ex, List.all_append, pre]
        simpa using c
      have endNo : (hitH ys (k, ad, .int n1 t1)) = false → xs.all (hitH ys) = false := by
        intro c
        cases z : xs.all (hitH ys) with
        | false => rfl
        | true =>
          have := List.all_eq_true.mp z _ mem
          rw [c] at this
          cases this
      refine wpAny_bind (wpAny_holding (wpAny_bind (wpAny_dictFind_heap hu (hia _ mem) hob hdb heb hib hnb ?_ ?_)))
      · intro no
        have c : hitH ys (k, ad, .int n1 t1) = false := by
          unfold hitH
          rw [atKey_none_of_get no]
        rw [endNo c] at h
        refine wpAny_pure ?_
        show wpAny _ _ (if (!false) = true then _ else _) _ _ _
        rw [if_pos (by decide)]
        exact wpAny_pure (wpAny_pure h)
      · intro j p hj
        obtain ⟨n2, t2, ep2⟩ := nb _ (List.mem_of_getElem? hj)
        obtain ⟨pa, pv⟩ := p
        dsimp only at ep2
        subst ep2
        have fen : fs[j]? = some (entryOfKey knd (k, pa, .int n2 t2)) := by rw [entry_at heb, hj]; rfl
        have c : hitH ys (k, ad, .int n1 t1) = (n1 == n2) := by
          unfold hitH
          rw [atKey_of_get hnb hj]
          rfl
        refine wpAny_bind (wpAny_dictEntries hob hdb ?_)
        rw [fen]
        refine wpAny_holding (SeqAt.EqAt.int_int n1 t1 n2 t2 prog w _ _ ?_)
        cases z : (n1 == n2) with
        | false =>
          rw [endNo (c.trans z)] at h
          show wpAny _ _ (if (!false) = true then _ else _) _ _ _
          rw [if_pos (by decide)]
          exact wpAny_pure (wpAny_pure h)
        | true =>
          show wpAny _ _ (if (!true) = true then _ else _) _ _ _
          rw [if_neg (by decide)]
          refine wpAny_bind (wpAny_dictEpoch hoa hda ?_)
          rw [if_neg (by simp)]
          exact wpAny_pure ⟨rfl, rfl, x + 1, hrest, lt, nextOk (c.trans z)⟩
    · rintro q s' ⟨rfl, rfl, i, hr, hi, pre⟩
      have e : i = es.size := by
        apply Nat.le_antisymm hi
        apply Nat.le_of_not_lt
        intro c
        rw [show es.size - i = (es.size - (i + 1)) + 1 by omega, List.range'_succ] at hr
        cases hr
      rw [e, la, List.take_length] at pre
      rw [pre] at h
      exact wpAny_pure h
  · have e1 : (xs.length == ys.length) = false := by rw [← la, ← lb]; simpa using hsz
    rw [e1, Bool.false_and] at h
    rw [if_pos (by simpa using hsz)]
    exact wpAny_bind (wpAny_rule (wpAny_pure h))
theorem eq_heap {a b : Addr} {xs ys : List (K × Addr × Value)} {Q : Value → Shared → Prop} (hu : A.units < cLine) (hr : knd.room A.in1) (ha : (a == sysModules) = false) (hb : (b == sysModules) = false)
    (da : s.heap.DictOfH knd a xs) (db : s.heap.DictOfH knd b ys) (na : ∀ x ∈ xs, ∃ i t, x.2.2 = .int i t) (nb : ∀ y ∈ ys, ∃ i t, y.2.2 = .int i t)
    (h : Q (.bool (xs.length == ys.length && xs.all (hitH ys))) s) : wpAny (model prog w) A (compareOp .Eq (.ref a) (.ref b)) Q E s := by
  have ta := da.typeIs
  have tb := db.typeIs
  refine wpAny_richCompare_same_room (op := .Eq) ta tb PySem.F.slot_dict_eq (wpAny_call_entry PySem.F.slot_dict_eq ta PySem.F.entry_dict_eq ?_ (PySem.F.args_dict_eq_2 _ _)) hu
  show wpAny _ _ (Builtin.Dict.dictSlotArgs "__eq__" ⟨[.ref a, .ref b], []⟩ >>= _) _ _ s
  refine wpAny_bind ?_
  unfold Builtin.Dict.dictSlotArgs
  refine wpAny_bind (wpAny_notOrdered_dict ta ?_)
  show wpAny _ _ (pure (Value.ref a, Value.ref b)) _ _ s
  refine wpAny_pure (wpAny_bind (wpAny_isInstance (T := "dict") tb PySem.F.sub_dict_dict ?_))
  simp only [Bool.not_true, Bool.false_eq_true, if_false]
  refine wpAny_bind (wpAny_pure (wpAny_bind (wpAny_pure (wpAny_bind (same_heap hr ha hb da db na nb ?_)))))
  refine wpAny_pure ⟨_, rfl, (by intro q; cases q), ?_⟩
  simpa using h
end
def rEqPD (P : Program) (w : World) : R2 := fun x y H Q => ∃ a b, ∃ ks ls : List (List NK × V), x = .ref a ∧ y = .ref b ∧ PD P w H a ks ∧ PD P w H b ls ∧ (∀ p ∈ ks, ∃ i, p.2 = .int i) ∧ (∀ p ∈ ls, ∃ i, p.2 = .int i) ∧
  Q (.bl (ks.length == ls.length && ks.all fun p => decide (valV ls p.1 = some p.2))) H
section
variable {X : Cx}
theorem PR.ints : ∀ {xs : List PE3} {ys : List (List NK × Addr × Value)}, PR xs ys → (∀ p ∈ xs.map (fun x => (x.1, x.2.2)), ∃ i, p.2 = .int i) → ∀ y ∈ ys, ∃ i t, y.2.2 = .int i t := by
  intro xs ys h
  unfold PR at h
  induction h with
  | nil => intro _ y hy; cases hy
  | @cons p q ps qs h1 _ ih =>
    intro hp y hy
    rcases List.mem_cons.mp hy with rfl | hy
    · obtain ⟨i, e⟩ := hp (p.1, p.2.2) (by simp)
      have r := h1.2.2
      dsimp only at e
      rw [e] at r
      exact ⟨i, r⟩
    · exact ih (fun x hx => hp x (by simp only [List.map_cons]; exact List.mem_cons_of_mem _ hx)) y hy
theorem PR.hits {ls : List PE3} {zs : List (List NK × Addr × Value)} (hz : PR ls zs) (il : ∀ p ∈ ls.map (fun x => (x.1, x.2.2)), ∃ i, p.2 = .int i) :
    ∀ {xs : List PE3} {ys : List (List NK × Addr × Value)}, PR xs ys → (∀ p ∈ xs.map (fun x => (x.1, x.2.2)), ∃ i, p.2 = .int i) →
      ys.all (hitH zs) = (xs.map fun x => (x.1, x.2.2)).all fun p => decide (valV (ls.map fun x => (x.1, x.2.2)) p.1 = some p.2) := by
  intro xs ys h
  unfold PR at h
  induction h with
  | nil => intro _; rfl
  | @cons p q ps qs h1 _ ih =>
    intro hp
    obtain ⟨e1, e2, e3⟩ := h1
    rw [List.all_cons, List.map_cons, List.all_cons, ih fun x hx => hp x (by simp only [List.map_cons]; exact List.mem_cons_of_mem _ hx)]
    congr 1
    obtain ⟨i, e⟩ := hp (p.1, p.2.2) (by simp)
    dsimp only at e
    rw [e] at e3
    obtain ⟨t, eq⟩ := e3
    have z := PR.at _ _ hz p.1
    rw [e1] at z
    unfold hitH
    rw [e1]
    dsimp only
    rw [e, eq]
    cases c : atKey zs q.1 with
    | none =>
      rw [c] at z
      cases c2 : valV (ls.map fun x => (x.1, x.2.2)) q.1 with
      | none => rfl
      | some v => rw [c2] at z; exact z.elim
    | some p2 =>
      rw [c] at z
      cases c2 : valV (ls.map fun x => (x.1, x.2.2)) q.1 with
      | none => rw [c2] at z; exact z.elim
      | some v =>
        rw [c2] at z
        have r2 : RelV v p2.2 := z
        have mem : ∃ kv ∈ ls.map (fun x => (x.1, x.2.2)), kv.2 = v := by
          unfold valV at c2
          obtain ⟨kv, h1, h2⟩ := Option.map_eq_some_iff.mp c2
          exact ⟨kv, List.mem_of_find?_eq_some h1, h2⟩
        obtain ⟨kv, hk, rfl⟩ := mem
        obtain ⟨j, ej⟩ := il kv hk
        rw [ej] at r2 ⊢
        obtain ⟨t2, et⟩ := r2
        show (numOf (Value.int i t) == numOf p2.2) = decide (some (V.int j) = some (V.int i))
        rw [et]
        show (i == j) = decide (some (V.int j) = some (V.int i))
        by_cases ij : i = j
        · subst ij; simp
        · rw [beq_eq_false_iff_ne.mpr ij, decide_eq_false]
          intro q
          injection q with q
          injection q with q
          exact ij q.symm
theorem op_eq_PD (hu : X.A.units + 1 < cLine) : OpR X (compareOp .Eq) (rEqPD X.prog X.w) := by
  intro pins s σ H x y v u Q I rx ry h
  obtain ⟨a, b, ks, ls, rfl, rfl, ea, eb, ia, ib, q⟩ := h
  cases rx
  cases ry
  obtain ⟨_, ha, xs, ys, _, rfl, _, ra, da⟩ := pd_of I ea
  obtain ⟨_, hb, xs2, ys2, _, rfl, _, rb, db⟩ := pd_of I eb
  refine eq_heap (Nat.lt_of_succ_lt hu) (tupleKind_room_in1 hu) ha hb da db (PR.ints ra ia) (PR.ints rb ib) ?_
  rw [PR.hits rb ib ra ia, ← Paired.length ra, ← Paired.length rb]
  rw [List.length_map, List.length_map] at q
  exact ⟨.bl _, H, I, rfl, q⟩
end
end GL

set_option Elab.async false
set_option linter.all false
set_option maxRecDepth 100000
set_option maxHeartbeats 4000000
/-! x + y, x - y of two own objects of one class; sorted of two truth values; defs called by names alone. -/
namespace GL
open PySem PySem.Spec PyProof.Rows L2
theorem bin_same {prog : Program} {w : World} {A : Around} {E' : Value → Shared → Prop} {s : Shared} {K : PySem.W.Frag} {x y C L f : Addr} {h₀ : Heap} {m : Str → Option Value}
    {ox oy : Obj} {od oe : Option Obj} {op : Operator} {Q : Value → Shared → Prop} (F : Fr h₀ L s.heap m) (X₀ : K.In h₀) (J : PySem.W.InstAt s.heap x ox C od) (J2 : PySem.W.InstAt s.heap y oy C oe)
    (T : PySem.W.selfFirst K C = true) (hs : PySem.W.findIn K (.ref C) (PySem.dunder op.info.2) = some (some (.ref f)))
    (hf : PySem.W.isFn K (.ref f) = true) (h : wpAny (model prog w) A (call (.ref f) [.ref x, .ref y]) (PySem.W.CmpBack Q) E' s) :
    wpAny (model prog w) A (binaryOp op (.ref x) (.ref y)) Q E' s := by
  have KX := X₀.keeps F.keep
  obtain ⟨cd, rest, hcd, hm⟩ := PySem.W.ksp_first T
  rcases hi : op.info with ⟨sym, nm⟩
  rw [hi] at hs
  dsimp only at hs
  have one := PySem.W.ksp_try KX J hs hf h
  obtain ⟨hh, gg, d, tt, os⟩ := s
  have A1 : PySem.W.Looks (model prog w) hh (typeOf (.ref x)) (.ref C) := J.type
  have A2 : PySem.W.Looks (model prog w) hh (typeOf (.ref y)) (.ref C) := J2.type
  have A3 : PySem.W.Looks (model prog w) hh (fillsNumberSlot (.ref C) nm) true := PySem.W.fills_K KX hcd hm hs
  have eq : (Value.ref C == Value.ref C) = true := beq_self_eq_true _
  simp only [binaryOp, hi]
  refine wpAny_holding (wpAny_bind ?_)
  unfold binaryOp1
  refine wpAny_bind (A1.at (wpAny_bind (A2.at (wpAny_bind (A3.at ?_)))))
  simp only [eq, if_true]
  ksp_lk
  refine wpAny_mono one ?_ fun _ _ e => e
  rintro r s' ⟨v, rfl, hq⟩
  ksp_lk
  exact hq
section
variable {X : Cx} {CX : CXT} {k n : Nat} {f C : Addr} {fd : FuncData} {ps ks : List Str} {sp : Sp} {E : XK} {nm : Str} {op : Operator}
def rBinO (C : Addr) (sp : Sp) (E : XK) : R2 := fun x y H Q =>
  ∃ a dx fs b dy gs, x = .ref a ∧ y = .ref b ∧ H a = some (.ins C dx fs) ∧ H b = some (.ins C dy gs) ∧ sp [.ref a, .ref b] H Q E
theorem op_bin_O (g : Clr X.A) (hr : Room k X.A) (hn : PySem.dunder op.info.2 = nm) (W : Own X CX k C nm f fd ps sp 2 E) (T : PySem.W.selfFirst X.K C = true)
    (hv : ∀ vs H Q, sp vs H Q E → sp vs H (fun v H1 => (∃ a, v = .ref a) ∧ Q v H1) E) : OpR X (binaryOp op) (rBinO C sp E) := by
  intro pins s σ H x y v u Q I rx ry h
  obtain ⟨a, dx, fs, b, dy, gs, rfl, rfl, ea, eb, h⟩ := h
  cases rx
  cases ry
  obtain ⟨ox, od, J⟩ := inst I ea
  obtain ⟨oy, oe, J2⟩ := inst I eb
  obtain ⟨m, hF⟩ := I.fr
  refine bin_same hF I.ok.mod.kin J J2 T (hn ▸ W.at_) W.fn ?_
  refine wpAny_mono (run_at (us := [.ref a, .ref b]) (vs := [.ref a, .ref b]) (ws := []) (zs := []) g hr rfl W.F W.bd W.ps_ I (.cons rfl (.cons rfl .nil)) .nil rfl rfl (hv _ _ _ h)) ?_ fun _ _ z => z
  rintro w' s' ⟨z, H1, I1, rz, ⟨c, rfl⟩, q⟩
  cases rz
  exact ⟨.ref c, H1, I1, rfl, q⟩
theorem or_bin {ps : List Str} (h : HasM X.prog X.w X.K X.mg X.base C nm k ps sp) (hl : ps.length = 2) (hn : PySem.dunder op.info.2 = nm) (T : PySem.W.selfFirst X.K C = true) (g : Clr X.A) (hr : Room k X.A)
    (hv : ∀ vs H Q, sp vs H Q E0 → sp vs H (fun v H1 => (∃ a, v = .ref a) ∧ Q v H1) E0) : OpR X (binaryOp op) (rBinO C sp E0) := by
  obtain ⟨f, fd, W⟩ := h.own
  rw [hl] at W
  exact op_bin_O g hr hn W T hv
end

/-! f(k = v, ..) -/
/-- a def that the text's top has bound to its name; called with all its values by names -/
structure HasK (P : Program) (w : World) (K : PySem.W.Frag) (mg : Str → Option Value) (base : Heap) (x : Str) (k : Nat) (ps : List Str) (sp : Sp) (ks : List Str) (gV : List V → List V → List V) : Prop where
  ex : ∃ f fd g1, mg x = some (.ref f) ∧ PySem.W.keepIn K (.ref f) = true ∧ FnG P w K mg base CX0 k f fd ps sp ∧ KBn K fd ps 0 ks g1 gV
section
variable {X : Cx} {CX : CXT} {k : Nat} {f : Addr} {fd : FuncData} {ps ks : List Str} {sp : Sp} {E : XK} {x : Str} {p pos : Pos} {kws : List Keyword} {tk : TA} {g1 : List Value → List Value → List Value} {gV : List V → List V → List V}
theorem pe_go0 (g : Clr X.A) (F : FnG X.prog X.w X.K X.mg X.base CX k f fd ps sp) (hr : Room k X.A) (hg : Gl X x) (hm : X.mg x = some (.ref f))
    (hk : PySem.W.keepIn X.K (.ref f) = true) (hb : KBn X.K fd ps 0 ks g1 gV) (hx : Passes CX X E) (hw : PK X kws tk)
    (hall : (backToKw pos (keywordEach kws X.env)).all (·.1.isSome) = true := by rfl)
    (hks : (backToKw pos (keywordEach kws X.env)).filterMap (·.1) = ks := by rfl)
    (hdb : (x == ("__debug__" : Str)) = false := by decide)
    (hpl : ((backTo pos (starEach [] X.env)).any (·.1) || (backToKw pos (keywordEach kws X.env)).any (·.1.isNone)) = false := by rfl) :
    PE X (.Call (.Name x p) [] kws pos) (tGo 0 ks.length sp gV E tNil tk) := by
  constructor
  intro pins s σ H Q I h
  apply wpAny_Call_Name_kw
  refine ld_glob I hg hm ?_ hdb
  refine PySem.W.callWith_KW0 (h₀ := X.base) I.ok.mod.kin hk hall ?_ hpl
  refine thn (hw.run pos pins s σ H _ I h) ?_
  rintro ws s2 ⟨zs, H2, I2, rz, l1, l2, q2⟩
  rw [hks]
  exact ⟨I2.kIn, run_at (us := []) (vs := []) g hr rfl F hb hx I2 .nil rz rfl l2 q2⟩
theorem pe_hasK (h : HasK X.prog X.w X.K X.mg X.base x k ps sp ks gV) (g : Clr X.A) (hr : Room k X.A) (hg : Gl X x) (hw : PK X kws tk)
    (hall : (backToKw pos (keywordEach kws X.env)).all (·.1.isSome) = true := by rfl)
    (hks : (backToKw pos (keywordEach kws X.env)).filterMap (·.1) = ks := by rfl)
    (hdb : (x == ("__debug__" : Str)) = false := by decide)
    (hpl : ((backTo pos (starEach [] X.env)).any (·.1) || (backToKw pos (keywordEach kws X.env)).any (·.1.isNone)) = false := by rfl) :
    PE X (.Call (.Name x p) [] kws pos) (tGo 0 ks.length sp gV E0 tNil tk) := by
  obtain ⟨f, fd, g1, a, b, F, c⟩ := h.ex
  exact pe_go0 g F hr hg a b c pass0 hw hall hks hdb hpl
end

/-! sorted(xs), xs of two truth values -/
def bvOf : Value → Int
  | .bool b => b2i b
  | _ => 0
def ltBv (v u : Value) : Bool := decide (bvOf v < bvOf u)
theorem swo_bv : SrtO.Swo ltBv := by
  refine ⟨fun x y h => ?_, fun x y z h1 h2 => ?_⟩
  · have a := of_decide_eq_true (p := bvOf x < bvOf y) h
    exact decide_eq_false (p := bvOf y < bvOf x) (by omega)
  · have a := of_decide_eq_false (p := bvOf y < bvOf x) h1
    have b := of_decide_eq_false (p := bvOf z < bvOf y) h2
    exact decide_eq_false (p := bvOf z < bvOf x) (by omega)
theorem kind_two (p q : Bool) : keyKind' #[.bool p, .bool q] = pure oneType' := by
  have f1 : ∀ b : Bool, firstOfTuple' (.bool b) = pure none := fun _ => rfl
  have f2 : ∀ b : Bool, typeOf (.bool b) = pure (.type "bool") := fun _ => rfl
  rw [keyKind'_eq, List.mapM_toArray, List.mapM_cons, List.mapM_cons, List.mapM_nil, f1, f1]
  simp only [map_pure, pure_bind]
  rw [if_neg (by simp), if_neg (by simp), oneTypeOnly'_eq, List.mapM_toArray, List.mapM_cons, List.mapM_cons, List.mapM_nil, f2, f2]
  simp only [map_pure, pure_bind]
  have all : (#[Value.type "bool", Value.type "bool"].all fun x => x == Value.type "bool") = true := by decide +kernel
  have h0 : #[Value.type "bool", Value.type "bool"][0]? = some (Value.type "bool") := by simp
  rw [h0]
  simp only [all, if_true, pure_bind, Option.isSome_some]
theorem two_sortable {prog : Program} {w : World} {A : Around} {s : Shared} {a : Addr} {p q : Bool} : SrtO.SortableO prog w A s a [.bool p, .bool q] ltBv := by
  intro h' _
  refine ⟨oneType', fun Q E hq => ?_, ?_⟩
  · rw [show ([Value.bool p, Value.bool q]).toArray = #[.bool p, .bool q] from rfl, kind_two]
    exact wpAny_pure hq
  · intro x y hm hm'
    have b1 : ∃ b, x.1 = .bool b := by
      rcases List.mem_cons.mp hm with e | e
      · exact ⟨_, e⟩
      · exact ⟨_, List.mem_singleton.mp e⟩
    have b2 : ∃ b, y.1 = .bool b := by
      rcases List.mem_cons.mp hm' with e | e
      · exact ⟨_, e⟩
      · exact ⟨_, List.mem_singleton.mp e⟩
    obtain ⟨b, e⟩ := b1
    obtain ⟨c, e'⟩ := b2
    show wpAny (model prog w) A (keyLt' oneType' x.1 y.1) (fun r s' => s' = _ ∧ r = ltBv x.1 y.1) (fun _ _ => False) _
    rw [e, e', keyLt'_oneType]
    exact PySem.W.oneLt_bool ⟨rfl, rfl⟩
def rSort2 (K : PySem.W.Frag) : List V → Hp → VK → Prop := fun vs H Q => ∃ (a : Addr) (p q : Bool), vs = [V.ref a] ∧ SqL K H a [.bl p, .bl q] ∧ NewK H (.lst [.bl (p && q), .bl (p || q)]) Q
theorem cr_sort2 {X : Cx} : CallR X (.builtin "sorted") (rSort2 X.K) := by
  intro pins s σ H vs us Q I r h
  obtain ⟨a, p, q, rfl, hs, k⟩ := h
  obtain ⟨its, rv, hl, hz⟩ := I.list hs
  rw [Vals.ref1 r]
  obtain ⟨u, v, rfl, r1, r2⟩ := vals_two rv
  cases r1
  cases r2
  refine SrtO.sorted_ord swo_bv hl.isList (by show 2 ≤ sizeLine; decide) (fun h2 h₁ a' _ _ => two_sortable) fun out h1 h2 => ?_
  have perm := h2.perm
  have e : out = [.bool (p && q), .bool (p || q)] := by
    have len := perm.length_eq
    match out, len, h1, perm with
    | [x, y], _, h1, perm =>
      have sorted : ltBv y x = false := by
        have := (List.pairwise_cons.mp h1).1 y (List.mem_singleton.mpr rfl)
        exact this
      have two : (x = .bool p ∧ y = .bool q) ∨ (x = .bool q ∧ y = .bool p) := by
        have hx := perm.mem_iff.mp (List.mem_cons_self (a := x) (l := [y]))
        rcases List.mem_cons.mp hx with ex | ex
        · subst ex
          have t := (List.perm_cons _).mp perm
          have z := List.perm_singleton.mp t
          injection z with z _
          exact .inl ⟨rfl, z⟩
        · have ex := List.mem_singleton.mp ex
          subst ex
          have t := (List.perm_cons _).mp (perm.trans (List.Perm.swap _ _ _))
          have z := List.perm_singleton.mp t
          injection z with z _
          exact .inr ⟨rfl, z⟩
      rcases two with ⟨rfl, rfl⟩ | ⟨rfl, rfl⟩
      · cases p <;> cases q <;> first | rfl | exact absurd sorted (by decide)
      · cases p <;> cases q <;> first | rfl | exact absurd sorted (by decide)
  subst e
  obtain ⟨ep, he'⟩ := PyProof.Rows.sortedAll_at s.heap [.bool p, .bool q] #[.bool (p && q), .bool (p || q)]
  have free := I.hok.fresh (Nat.le_succ s.heap.objs.size)
  exact ⟨.ref _, upd H (s.heap.objs.size + 1) (.lst [.bl (p && q), .bl (p || q)]), I.laid (t' := s.toks) (fun _ _ => PyProof.Rows.sortedAll_old) (Nat.le_succ _) ⟨by show 2 ≤ sizeLine; decide, _, ep, .cons rfl (.cons rfl .nil), he'⟩, rfl,
    k _ _ free upd_same (same_new (Same.refl' H) free)⟩
end GL

set_option Elab.async false
set_option linter.all false
set_option maxRecDepth 100000
set_option maxHeartbeats 4000000
/-! repr of a dict of own objects. -/
namespace GL
open PySem PySem.Spec PyProof.Rows L2
section
variable {X : Cx} {CX : CXT} {k : Nat} {f C : Addr} {fd : FuncData} {ps : List Str} {sp : Sp} {E : XK}
/-- as run_at, where guards may be up -/
theorem run_atF {A : Around} {pins : List (Addr × Obj)} {σ : L2.St} {H : Hp} {s : Shared} {Q : VK} {us : List Value} {vs : List V} (hr : Room k A) (fr : A.frames = X.A.frames)
    (F : FnOk X.prog X.w X.K X.mg X.base CX k f fd ps sp) (hb : KBn X.K fd ps ps.length [] (fun us _ => us) (fun vs _ => vs)) (hx : Passes CX X E) (I : L2.Inv X pins σ H s) (r : Vals vs us) (l1 : vs.length = ps.length) (h : sp vs H Q E) :
    wpAny (model X.prog X.w) A (call (.ref f) us []) (EP X pins σ Q) X.xe s := by
  have e0 := I.env0
  have e1 : Env0 X.prog X.w X.K X.mg X.base A X.stack s H := ⟨fr.trans e0.frames, e0.mod, e0.bs, e0.bsz, e0.funs, e0.frf, e0.hok, e0.bare⟩
  exact wpAny_call (codeAny_mono (F.run A X.stack s H ⟨us, []⟩ us vs Q E hr e1 (hb.to s us [] I.kIn (r.length.symm.trans l1) rfl) (hb.rel r .nil) h) (back hx I))
/-- the repr of an own object within that of a dict -/
theorem under_own {K : PySem.W.Frag} {prog : Program} {w : World} {A : Around} {E : Value → Shared → Prop} {s : Shared} {x C f L : Addr} {h₀ : Heap} {m : Str → Option Value} {ox : Obj} {od : Option Obj} {base : Nat} {Q : Str → Shared → Prop}
    (hu : A.units < cLine) (hb : base ≤ sizeLine) (F : Fr h₀ L s.heap m) (X₀ : K.In h₀) (J : PySem.W.InstAt s.heap x ox C od) (hs : PySem.W.findIn K (.ref C) "__repr__" = some (some (.ref f)))
    (hf : PySem.W.isFn K (.ref f) = true) (h : wpAny (model prog w) A (call (.ref f) [.ref x] []) (fun v s' => ∃ t u, v = .str t u ∧ Q t s') E s) : wpAny (model prog w) A (pyReprUnder base (.ref x)) Q E s := by
  have KX := X₀.keeps F.keep
  refine wpAny_pyReprUnder_ref hb ?_
  unfold pyReprObjUnder pyReprObjBy
  refine wpAny_bind (wpAny_cRoomFor hu (wpAny_bind (wpAny_bind (J.type.here ((PySem.W.looks_findIn KX hs).here ?_)))))
  show wpAny _ _ (if (some (Value.ref f)).isNone = true then _ else _) _ _ _
  rw [if_neg (by simp)]
  simp only [callSpecialIfBoundBy?, bindSpecialIfBound?]
  refine wpAny_bind (wpAny_holding (wpAny_bind (wpAny_bind (wpAny_bind (J.type.here ((PySem.W.looks_findIn KX hs).here ?_))))))
  refine wpAny_bind (wpAny_askSetting (wpAny_ite ?_))
  have fin : wpAny (model prog w) A (call (.ref f) ([.ref x] ++ []) [] >>= fun v => pure (some v)) (fun r s' => wpAny (model prog w) A (match r with
      | some r => do if ← isInstance r (.type "str") then pure r else raiseError "TypeError" s!"__repr__ returned non-string (type {← typeNameOf r})"
      | none => unsupported "repr:special-get-raises") (fun v s' => ∃ x u, v = .str x u ∧ Q x s') E s') E s := by
    refine wpAny_bind (wpAny_mono h ?_ fun _ _ e => e)
    rintro v s' ⟨t, u, rfl, q⟩
    refine wpAny_pure ?_
    exact wpAny_bind (wpAny_isInstance (T := "str") (b := true) rfl isSubtype_str_str (wpAny_pure ⟨t, u, rfl, q⟩))
  split
  · exact wpAny_bind ((PySem.W.bind_fn KX _ (beq_iff_eq.mp hf)).here (wpAny_pure (by exact fin)))
  · exact wpAny_tryCatch (wpAny_bind ((PySem.W.bind_fn KX _ (beq_iff_eq.mp hf)).here (wpAny_pure (by exact fin))))
end

/-- the loop of a dict's repr, what is told of the state between two entries being a letter -/
theorem repr_loop {prog : Program} {w : World} {A : Around} {s : Shared} {R : Result → Shared → Prop} {a : Addr} {o : Obj} {es : Array DictEntry} {n : Nat} {ps : List Str} (M : Nat → Shared → Prop)
    (at_ : ∀ i s, M i s → s.heap.get? a = some o) (hc : o.cls = .type "dict") (hd : o.data = .dict es n) (hsys : (a == sysModules) = false) (hg : A.guards = some []) (hl : ps.length = es.size) (hz : (dictText ps).length ≤ sizeLine)
    (item : ∀ i e, es[i]? = some e → ∃ k v : Str, ps[i]? = some (k ++ ": " ++ v) ∧ ReprIs prog w e.key k ∧ (∀ s tk, M i s → M i { s with toks := tk }) ∧ ∀ base (Q : Str → Shared → Prop) (s : Shared), base ≤ sizeLine → M i s → (∀ s', M (i + 1) s' → Q v s') →
      wpAny (model prog w) (A.under (.builtin "dict.__repr__" ⟨[.ref a], []⟩)) (pyReprUnder base e.val) Q (fun e s' => R (.error e) s') s)
    (h0 : M 0 s) (hR : ∀ s' u, M es.size s' → R (.ok (.ret (.str (dictText ps) u))) { s' with toks := s'.toks + 1 }) :
    wpOwn (model prog w) A (.builtin "dict.__repr__" ⟨[.ref a], []⟩) (Builtin.dictReprAt 0 ⟨[.ref a], []⟩) (fun fin s' => match fin with | .done f => R (.ok f) s' | .again c' => c'.quiet = true ∧ codeAny (model prog w) A c' R s') (fun e s' => R (.error e) s') s := by
  have ty : s.TypeIs (.ref a) "dict" := ⟨o, at_ _ _ h0, hc⟩
  have hp3 := piled_le_dictText ps
  unfold Builtin.dictReprAt
  refine wpOwn_bind (wpOwn_of_wpAny ?_)
  unfold Builtin.Dict.dictSlotNone
  refine wpAny_bind (wpAny_notOrdered_dict ty ?_)
  show wpAny _ _ (pure (Value.ref a)) _ _ s
  refine wpAny_pure ?_
  rw [dictReprRunning_eq]
  refine wpOwn_bind (wpOwn_stackTailAny hg (dictGuardF_off _) (dictGuardF_pos _) ?_)
  show wpOwn _ _ _ (if (([] : List Code).any fun c => dictGuardF (.ref a) (c, default)) = true then _ else _) _ _ s
  rw [if_neg (by simp)]
  refine wpOwn_of_wpAny ?_
  show wpAny _ _ (Builtin.Dict.addrOf (.ref a) >>= _) _ _ s
  refine wpAny_bind (wpAny_pure ?_)
  show wpAny _ _ (Builtin.Dict.showsAll a >>= _) _ _ s
  unfold Builtin.Dict.showsAll
  rw [if_neg (by rw [hsys]; exact Bool.false_ne_true)]
  refine wpAny_bind (wpAny_pure (wpAny_bind (wpAny_dictEpoch (at_ _ _ h0) hd (wpAny_bind (wpAny_dictEntries (at_ _ _ h0) hd (wpAny_bind ?_))))))
  rw [Std.Legacy.Range.forIn_eq_forIn_range']
  simp only [Std.Legacy.Range.size, Nat.sub_zero, Nat.add_sub_cancel, Nat.div_one]
  refine wpAny_forIn_list _ (fun rest r s' => ∃ i, rest = List.range' i (es.size - i) ∧ i ≤ es.size ∧ r = (⟨(ps.take i).toArray, 0 + piled (ps.take i)⟩ : (Array Str × Nat)) ∧ M i s') _ ?_ ?_ _ _ ⟨0, by simp, Nat.zero_le _, by simp [piled], h0⟩
  · rintro x rest _ s' ⟨i, hr, hi, rfl, m⟩
    have lt : i < es.size := by
      apply Nat.lt_of_not_le
      intro c
      rw [Nat.sub_eq_zero_of_le c] at hr
      cases hr
    have step : es.size - i = (es.size - (i + 1)) + 1 := by omega
    rw [step, List.range'_succ] at hr
    injection hr with hx hrest
    subst hx
    obtain ⟨k, v, hp, rk, stay, rv⟩ := item x es[x] (Array.getElem?_eq_getElem lt)
    have hpl : (k ++ ": " ++ v).length = k.length + 2 + v.length := by
      rw [strLen_append, strLen_append]; rfl
    have hp1 := piled_take_succ hp
    have hp2 := piled_take_le ps (x + 1)
    rw [hpl] at hp1
    refine wpAny_bind (wpAny_dictEntries (at_ _ _ m) hd ?_)
    rw [Array.getElem?_eq_getElem lt]
    refine wpAny_bind (wpAny_holding (wpAny_bind (rk (0 + piled (ps.take x) + 1) (by omega) _ _ _ _ fun tk =>
      wpAny_bind (rv (0 + piled (ps.take x) + (k.length + 3)) _ _ (by omega) (stay _ tk m) fun s2 m2 => wpAny_pure ?_))))
    refine wpAny_bind (wpAny_dictEpoch (at_ _ _ m2) hd ?_)
    rw [if_neg (by simp)]
    have e1 : (ps.take x).toArray.push (k ++ ": " ++ v) = (ps.take (x + 1)).toArray := by
      rw [List.take_add_one, hp]
      simp
    have e2 : 0 + piled (ps.take x) + (k.length + v.length + 4) = 0 + piled (ps.take (x + 1)) := by omega
    refine wpAny_pure ⟨x + 1, hrest, lt, ?_, m2⟩
    rw [e1, e2]
  · rintro _ s' ⟨i, hr, hi, rfl, m⟩
    have e : i = es.size := by
      apply Nat.le_antisymm hi
      apply Nat.le_of_not_lt
      intro c
      rw [show es.size - i = (es.size - (i + 1)) + 1 by omega, List.range'_succ] at hr
      cases hr
    rw [e] at m
    rw [e, ← hl, List.take_length]
    refine wpAny_bind (wpAny_mkStr (wpAny_pure ?_) (by simpa [dictText] using hz))
    have z := hR s' s'.toks m
    simpa [dictText] using z

/-- the entries of a dict of own objects, as they are shown -/
inductive ShowsE (C : Addr) (sp : Sp) (H : Hp) : List (Key × V) → List Str → Prop where
  | nil : ShowsE C sp H [] []
  | cons {x : Str} {y dx : Addr} {fs : List (Str × V)} {t : Str} {r : List (Key × V)} {ts : List Str} : (reprText x).length ≤ sizeLine → H y = some (.ins C dx fs) →
      (∀ H' Q, Same H H' → (∀ H'', Same H' H'' → Q (.str t) H'') → sp [.ref y] H' Q E0) → ShowsE C sp H r ts → ShowsE C sp H ((Sum.inr x, .ref y) :: r) ((reprText x ++ ": " ++ t) :: ts)
theorem ShowsE.len {C : Addr} {sp : Sp} {H : Hp} {kvs : List (Key × V)} {ts : List Str} (h : ShowsE C sp H kvs ts) : ts.length = kvs.length := by
  induction h with
  | nil => rfl
  | cons _ _ _ _ ih => simp [ih]
theorem ShowsE.at {C : Addr} {sp : Sp} {H : Hp} {kvs : List (Key × V)} {ts : List Str} (h : ShowsE C sp H kvs ts) : ∀ {i : Nat} {kv : Key × V}, kvs[i]? = some kv → ∃ x y dx fs t, kv = (Sum.inr x, .ref y) ∧ ts[i]? = some (reprText x ++ ": " ++ t) ∧ (reprText x).length ≤ sizeLine ∧ H y = some (.ins C dx fs) ∧
    ∀ H' Q, Same H H' → (∀ H'', Same H' H'' → Q (.str t) H'') → sp [.ref y] H' Q E0 := by
  induction h with
  | nil => intro i kv e; simp at e
  | @cons x y dx fs t r ts z e1 e2 _ ih =>
    intro i kv e
    cases i with
    | zero => cases e; exact ⟨x, y, dx, fs, t, rfl, rfl, z, e1, e2⟩
    | succ i => exact ih (by simpa using e)
def rReprRD (C : Addr) (sp : Sp) : List V → Hp → VK → Prop := fun vs H Q => ∃ a o kvs ts, vs = [.ref a] ∧ H a = some (.frz o (.dK kvs)) ∧ ShowsE C sp H kvs ts ∧ (dictText ts).length ≤ sizeLine ∧ ∀ H', Same H H' → Q (.str (dictText ts)) H'
theorem drepr_depth {A : Around} {a : Addr} : (A.under (.builtin "dict.__repr__" ⟨[.ref a], []⟩)).depth ≤ A.depth + 1 := by
  first | exact Nat.le_of_eq rfl | exact Nat.le_succ _ | simp [Around.under, Code.weight, Code.isCreation, Code.isGuard, Code.isCaller, Code.frames, Code.isFrame, guardIds]
theorem drepr_frames {A : Around} {a : Addr} : (A.under (.builtin "dict.__repr__" ⟨[.ref a], []⟩)).frames = A.frames := by
  first | rfl | simp [Around.under, Code.envs, Code.isFrame, pushEnvs]
theorem drepr_handled {A : Around} {a : Addr} : (A.under (.builtin "dict.__repr__" ⟨[.ref a], []⟩)).handled = A.handled := by
  first | rfl | simp [Around.under]
theorem call_repr_RD {X : Cx} {k : Nat} {f C : Addr} {fd : FuncData} {sp : Sp} (g : Clr X.A) (hr : Room (k + 3) X.A) (F : FnOk X.prog X.w X.K X.mg X.base CX0 k f fd ["self"] sp) (hb : KBn X.K fd ["self"] 1 [] (fun us _ => us) (fun vs _ => vs))
    (hs : PySem.W.findIn X.K (.ref C) "__repr__" = some (some (.ref f))) (hf : PySem.W.isFn X.K (.ref f) = true) : CallR X (.builtin "repr") (rReprRD C sp) := by
  intro pins s σ H vs us Q I r h
  obtain ⟨a, o, kvs, ts, rfl, ea, sh, hz, q⟩ := h
  cases r with
  | cons r1 r2 =>
    cases r2
    cases r1
    obtain ⟨ho, z, hsys, vs, rel, ob, es, ep, ho2, hx, hdat, hkeys, hpairs, hnd⟩ := (show ObjOk X.prog X.w H s.heap a (.frz o (.dK kvs)) from I.hok a _ ea)
    cases ho.symm.trans ho2
    have un := hr.un
    have dp := hr.dp
    have lv : vs.length = es.size := by rw [← hpairs.length]; exact Array.length_toList
    have lk := rel.length
    have ty : s.TypeIs (.ref a) "dict" := ⟨o, ho, hx.1⟩
    have hh : X.A.handled = none := hr.hd
    refine call_repr_slot (by show X.A.units + 1 < cLine; omega) ty PySem.F.slot_dict_repr ?_
    refine wpAny_call (codeAny_call_builtin_own (Code.quiet_builtin _ (by decide +kernel)) PySem.F.entry_dict_repr (PySem.F.slot_dict_repr.check _ _ _ _ _ _ _ _ ty (PySem.F.args_dict_repr_1 _) ?_))
    refine repr_loop (prog := X.prog) (w := X.w) (R := callEnd (fun v s' => ∃ x t, v = .str x t ∧ EP X pins σ Q v s') X.xe) (ps := ts) (fun _ s' => ∃ H', L2.Inv X pins σ H' s' ∧ Same H H') ?_ hx.1 hdat hsys (show X.A.in1.guards = some [] from g) (by rw [sh.len]; omega) hz ?_ ⟨H, I, Same.refl' H⟩ ?_
    · rintro i s' ⟨H', I', sm⟩
      exact (I'.hok a _ (sm _ _ ea)).1
    · intro i e he
      have hi : i < vs.length := by rw [lv]; exact (Array.getElem?_eq_some_iff.mp he).1
      obtain ⟨kv, hkv⟩ : ∃ kv, kvs[i]? = some kv := ⟨_, List.getElem?_eq_getElem (by omega)⟩
      obtain ⟨x, y, dx, fs, t, rfl, et, lx, ey, pr⟩ := sh.at hkv
      obtain ⟨qv, hq⟩ : ∃ qv, vs[i]? = some qv := ⟨_, List.getElem?_eq_getElem hi⟩
      obtain ⟨p', hp', e1, e2⟩ := paired_at rel hq
      rw [hkv] at hp'
      cases hp'
      obtain ⟨hkey, hval⟩ := hpairs.get? (i := i) (e := e) (k := qv.1) (v := qv.2) (by rw [Array.getElem?_toList]; exact he) hq
      have ek : (mixKind X.prog X.w).is (Sum.inr x) e.key = true := by
        rw [show (Sum.inr x : Key) = qv.1 from e1]
        exact hkey
      obtain ⟨tk, eks⟩ : ∃ tk, e.key = .str x tk := by
        have ek' : keyIs (Sum.inr x) e.key = true := ek
        rcases keyIs_shape ek' with ⟨_, _, c, _⟩ | ⟨x', tk, c, e3⟩
        · cases c
        · cases c
          exact ⟨tk, e3⟩
      have evr : e.val = .ref y := by rw [hval]; exact e2
      refine ⟨reprText x, t, et, by rw [eks]; exact ReprIs.str x tk lx, ?_, ?_⟩
      · rintro s1 tk ⟨H', I', sm⟩
        exact ⟨H', I'.tok _, sm⟩
      · rintro base Q1 s1 hbase ⟨H', I', sm⟩ q1
        rw [evr]
        obtain ⟨ox, od, J⟩ := inst I' (sm _ _ ey)
        obtain ⟨m, hF⟩ := I'.fr
        refine under_own (by rw [units_under_dict_repr]; show X.A.units + 1 + 1 < cLine; omega) hbase hF I'.ok.mod.kin J hs hf ?_
        have rm : Room k (X.A.in1.under (.builtin "dict.__repr__" ⟨[.ref a], []⟩)) := by
          refine ⟨by rw [drepr_handled]; exact hh, ?_, ?_⟩
          · have := drepr_depth (A := X.A.in1) (a := a)
            have e3 : X.A.in1.depth = X.A.depth := rfl
            omega
          · rw [units_under_dict_repr]
            show X.A.units + 1 + 1 + 16 * k + 200 < cLine
            omega
        refine wpAny_mono (run_atF (vs := [.ref y]) rm drepr_frames F hb pass0 I' (.cons rfl .nil) rfl (pr H' (fun v H2 => v = .str t ∧ Same H H2) sm fun H2 s2 => ⟨rfl, sm.trans s2⟩)) ?_ ?_
        · rintro v s2 ⟨vv, H2, I2, rv, rfl, s3⟩
          obtain ⟨u, rfl⟩ := rv
          exact ⟨t, u, rfl, q1 _ ⟨H2, I2, s3⟩⟩
        · intro e s' z
          exact z
    · rintro s' u ⟨H', I', sm⟩
      exact ⟨_, _, rfl, .str (dictText ts), H', I'.tok _, ⟨_, rfl⟩, q H' sm⟩
end GL

/-! Ways along conditions, and what is least among them. -/
set_option linter.all false
namespace KN
variable {P : Type} [DecidableEq P]
abbrev Cond (P : Type) := P × P × Int

/-- a way from the one to the other: the places behind the first one, its sum -/
inductive W (C : List (Cond P)) : P → P → List P → Int → Prop where
  | nil {a : P} : W C a a [] 0
  | cons {a b c : P} {m s : Int} {vs : List P} : (a, b, m) ∈ C → W C b c vs s → W C a c (b :: vs) (m + s)

theorem W.app {C : List (Cond P)} {a b c : P} {u v : List P} {s t : Int} (h : W C a b u s) (k : W C b c v t) : W C a c (u ++ v) (s + t) := by
  induction h with
  | nil => simpa using k
  | cons e _ ih =>
    rw [Int.add_assoc]
    exact .cons e (ih k)
theorem W.mono {C D : List (Cond P)} (i : ∀ x ∈ C, x ∈ D) {a b : P} {u : List P} {s : Int} (h : W C a b u s) : W D a b u s := by
  induction h with
  | nil => exact .nil
  | cons e _ ih => exact .cons (i _ e) ih
theorem W.one {C : List (Cond P)} {a b : P} {m : Int} (h : (a, b, m) ∈ C) : W C a b [b] m := by
  have := W.cons h (.nil (C := C))
  simpa using this
theorem W.zero {C : List (Cond P)} {a b : P} {s : Int} (h : W C a b [] s) : a = b ∧ s = 0 := by
  cases h
  exact ⟨rfl, rfl⟩
/-- a place on the way parts it -/
theorem W.part {C : List (Cond P)} {a c p : P} {vs : List P} {s : Int} (h : W C a c vs s) (hp : p ∈ vs) :
    ∃ v1 v2 s1 s2, v1 ≠ [] ∧ W C a p v1 s1 ∧ W C p c v2 s2 ∧ vs.length = v1.length + v2.length ∧ s = s1 + s2 := by
  induction h with
  | nil => cases hp
  | @cons a b c m s vs e k ih =>
    by_cases q : p = b
    · subst q
      exact ⟨[p], vs, m, s, by simp, .one e, k, by simp; omega, rfl⟩
    · obtain ⟨v1, v2, s1, s2, _, h1, h2, hl, hs⟩ := ih ((List.mem_cons.mp hp).resolve_left q)
      exact ⟨b :: v1, v2, m + s1, s2, by simp, .cons e h1, h2, by simp; omega, by omega⟩
/-- a way that meets a place twice has a ring on it -/
theorem W.loop {C : List (Cond P)} {a c : P} {vs : List P} {s : Int} (h : W C a c vs s) (n : ¬ (a :: vs).Nodup) :
    ∃ p v1 v2 v3 s1 s2 s3, W C a p v1 s1 ∧ v2 ≠ [] ∧ W C p p v2 s2 ∧ W C p c v3 s3 ∧ vs.length = v1.length + v2.length + v3.length ∧ s = s1 + s2 + s3 := by
  induction h with
  | nil => exact absurd (by simp) n
  | @cons a b c m s vs e k ih =>
    by_cases q : a ∈ b :: vs
    · obtain ⟨v1, v2, s1, s2, h0, h1, h2, hl, hs⟩ := (W.cons e k).part q
      exact ⟨a, [], v1, v2, 0, s1, s2, .nil, h0, h1, h2, by simpa using hl, by omega⟩
    · have n' : ¬ (b :: vs).Nodup := fun z => n (List.nodup_cons.mpr ⟨q, z⟩)
      obtain ⟨p, v1, v2, v3, s1, s2, s3, h1, h0, h2, h3, hl, hs⟩ := ih n'
      exact ⟨p, b :: v1, v2, v3, m + s1, s2, s3, .cons e h1, h0, h2, h3, by simp; omega, by omega⟩

/-- all places of the conditions -/
def In (V : List P) (C : List (Cond P)) : Prop := ∀ x ∈ C, x.1 ∈ V ∧ x.2.1 ∈ V
theorem W.sub {C : List (Cond P)} {V : List P} (i : In V C) {a b : P} {vs : List P} {s : Int} (h : W C a b vs s) : ∀ x ∈ vs, x ∈ V := by
  induction h with
  | nil => intro x q; cases q
  | cons e _ ih =>
    intro x q
    rcases List.mem_cons.mp q with rfl | q
    · exact (i _ e).2
    · exact ih x q
theorem len_of_nodup : ∀ {l V : List P}, l.Nodup → (∀ x ∈ l, x ∈ V) → l.length ≤ V.length
  | [], _, _, _ => Nat.zero_le _
  | a :: l, V, n, h => by
    have ha := h a (List.mem_cons_self ..)
    have nd := List.nodup_cons.mp n
    have := len_of_nodup (l := l) (V := V.erase a) nd.2 fun x hx =>
      (List.mem_erase_of_ne (fun (e : x = a) => nd.1 (e ▸ hx))).mpr (h x (List.mem_cons_of_mem _ hx))
    rw [List.length_erase_of_mem ha] at this
    have : 0 < V.length := List.length_pos_of_mem ha
    simp only [List.length_cons]
    omega

def NoNeg (C : List (Cond P)) : Prop := ∀ p vs s, W C p p vs s → 0 ≤ s
/-- there is a ring -/
def Ring (C : List (Cond P)) : Prop := ∃ p vs s, W C p p vs s ∧ s < 0
theorem noNeg_iff {C : List (Cond P)} : NoNeg C ↔ ¬ Ring C :=
  ⟨fun h ⟨p, vs, s, w, l⟩ => by have := h p vs s w; omega, fun h p vs s w => by
    by_cases q : 0 ≤ s
    · exact q
    · exact absurd ⟨p, vs, s, w, by omega⟩ h⟩

/-- without a ring each way has one of few conditions beside it -/
theorem short {C : List (Cond P)} {V : List P} (i : In V C) (nn : NoNeg C) : ∀ (n : Nat) {a b : P} {vs : List P} {s : Int}, vs.length ≤ n → a ∈ V → W C a b vs s →
    ∃ vs' s', W C a b vs' s' ∧ vs'.length < V.length ∧ s' ≤ s
  | n, a, b, vs, s, hn, ha, h => by
    by_cases nd : (a :: vs).Nodup
    · have := len_of_nodup nd fun x hx => (List.mem_cons.mp hx).elim (fun e => e ▸ ha) (h.sub i x)
      exact ⟨vs, s, h, by simp only [List.length_cons] at this; omega, Int.le_refl _⟩
    · obtain ⟨p, v1, v2, v3, s1, s2, s3, h1, h0, h2, h3, hl, hs⟩ := h.loop nd
      have pos : 0 < v2.length := List.length_pos_iff.mpr h0
      match n with
      | 0 => omega
      | n + 1 =>
        obtain ⟨w, t, k1, k2, k3⟩ := short i nn n (vs := v1 ++ v3) (by simp; omega) ha (h1.app h3)
        exact ⟨w, t, k1, k2, by have := nn _ _ _ h2; omega⟩
/-- a ring of few conditions -/
theorem ring_short {C : List (Cond P)} {V : List P} (i : In V C) : ∀ (n : Nat) {p : P} {vs : List P} {s : Int}, vs.length ≤ n → W C p p vs s → s < 0 →
    ∃ q vs' s', W C q q vs' s' ∧ s' < 0 ∧ vs'.length ≤ V.length
  | n, p, vs, s, hn, h, l => by
    by_cases nd : vs.Nodup
    · exact ⟨p, vs, s, h, l, len_of_nodup nd (h.sub i)⟩
    · cases h with
      | nil => exact absurd (by simp) nd
      | @cons _ b _ m s vs e k =>
        obtain ⟨q, v1, v2, v3, s1, s2, s3, h1, h0, h2, h3, hl, hs⟩ := k.loop nd
        have pos : 0 < v2.length := List.length_pos_iff.mpr h0
        match n with
        | 0 => simp at hn
        | n + 1 =>
          simp only [List.length_cons] at hn
          by_cases z : s2 < 0
          · exact ring_short i n (vs := v2) (by omega) h2 z
          · exact ring_short i n (vs := b :: (v1 ++ v3)) (by simp; omega) (.cons e (h1.app h3)) (by omega)

/-- a condition follows from others -/
def Imp (C : List (Cond P)) (c : Cond P) : Prop := Ring C ∨ ∃ vs s, W C c.1 c.2.1 vs s ∧ s ≤ c.2.2
theorem Ring.mono {C D : List (Cond P)} (i : ∀ x ∈ C, x ∈ D) : Ring C → Ring D := fun ⟨p, vs, s, w, l⟩ => ⟨p, vs, s, w.mono i, l⟩
theorem Imp.mono {C D : List (Cond P)} (i : ∀ x ∈ C, x ∈ D) {c : Cond P} : Imp C c → Imp D c :=
  Or.imp (Ring.mono i) fun ⟨vs, s, w, l⟩ => ⟨vs, s, w.mono i, l⟩
theorem Imp.mem {C : List (Cond P)} {c : Cond P} (h : c ∈ C) : Imp C c := .inr ⟨_, _, .one (show (c.1, c.2.1, c.2.2) ∈ C from h), Int.le_refl _⟩
/-- a way over conditions that follow -/
theorem W.over {C D : List (Cond P)} (h : ∀ c ∈ D, Imp C c) {a b : P} {vs : List P} {s : Int} (w : W D a b vs s) : Ring C ∨ ∃ vs' s', W C a b vs' s' ∧ s' ≤ s := by
  induction w with
  | nil => exact .inr ⟨[], 0, .nil, Int.le_refl _⟩
  | cons e _ ih =>
    rcases h _ e with r | ⟨u, t, w1, l1⟩
    · exact .inl r
    · rcases ih with r | ⟨u2, t2, w2, l2⟩
      · exact .inl r
      · exact .inr ⟨_, _, w1.app w2, by dsimp only at l1; omega⟩
theorem Ring.over {C D : List (Cond P)} (h : ∀ c ∈ D, Imp C c) (r : Ring D) : Ring C := by
  obtain ⟨p, vs, s, w, l⟩ := r
  rcases w.over h with r | ⟨u, t, w', l'⟩
  · exact r
  · exact ⟨p, u, t, w', by omega⟩
theorem Imp.over {C D : List (Cond P)} (h : ∀ c ∈ D, Imp C c) {c : Cond P} (k : Imp D c) : Imp C c := by
  rcases k with r | ⟨vs, s, w, l⟩
  · exact .inl (r.over h)
  · rcases w.over h with r | ⟨u, t, w', l'⟩
    · exact .inl r
    · exact .inr ⟨u, t, w', by omega⟩

/-- the contrary of a condition put to others makes a ring just if it follows from them -/
theorem ring_contrary {C : List (Cond P)} {c : Cond P} : Ring (C ++ [(c.2.1, c.1, -c.2.2 - 1)]) ↔ Imp C c := by
  constructor
  · rintro ⟨p, vs, s, w, l⟩
    -- a way over the greater list: one over C alone, or one to the end c.2.1 and ones of C from c.1 on
    have key : ∀ {a b : P} {vs : List P} {s : Int}, W (C ++ [(c.2.1, c.1, -c.2.2 - 1)]) a b vs s → ¬ Imp C c →
        (∃ u t, W C a b u t ∧ t ≤ s) ∨ (∃ u1 t1 u2 t2, W C a c.2.1 u1 t1 ∧ W C c.1 b u2 t2 ∧ t1 + (-c.2.2 - 1) + t2 ≤ s) := by
      intro a b vs s w ni
      induction w with
      | nil => exact .inl ⟨[], 0, .nil, Int.le_refl _⟩
      | @cons a b d m s vs e k ih =>
        rcases List.mem_append.mp e with e | e
        · rcases ih with ⟨u, t, w1, l1⟩ | ⟨u1, t1, u2, t2, w1, w2, l1⟩
          · exact .inl ⟨_, _, .cons e w1, by omega⟩
          · exact .inr ⟨_, _, _, _, .cons e w1, w2, by omega⟩
        · have e := List.mem_singleton.mp e
          injection e with e1 e2
          injection e2 with e2 e3
          subst e1 e2 e3
          rcases ih with ⟨u, t, w1, l1⟩ | ⟨u1, t1, u2, t2, w1, w2, l1⟩
          · exact .inr ⟨[], 0, u, t, .nil, w1, by omega⟩
          · -- c.1 to c.2.1 over C: it costs more than c's most
            refine .inr ⟨[], 0, u2, t2, .nil, w2, ?_⟩
            have : ¬ t1 ≤ c.2.2 := fun z => ni (.inr ⟨u1, t1, w1, z⟩)
            omega
    by_cases ni : Imp C c
    · exact ni
    · rcases key w ni with ⟨u, t, w1, l1⟩ | ⟨u1, t1, u2, t2, w1, w2, l1⟩
      · exact .inl ⟨p, u, t, w1, by omega⟩
      · exact .inr ⟨_, _, w2.app w1, by omega⟩
  · rintro (r | ⟨vs, s, w, l⟩)
    · exact r.mono fun x hx => List.mem_append_left _ hx
    · refine ⟨c.1, _, _, (w.mono fun x hx => List.mem_append_left _ hx).app (.one (List.mem_append_right _ (List.mem_singleton.mpr rfl))), by omega⟩
end KN

set_option linter.all false
namespace KN
variable {P : Type} [DecidableEq P]
/-! tables of sums -/
abbrev Tab (P : Type) := P → P → Option Int
def Tab.put (f : Tab P) (a b : P) (s : Int) : Tab P := fun x y => if x = a ∧ y = b then some s else f x y
theorem Tab.put_same {f : Tab P} {a b : P} {s : Int} : f.put a b s a b = some s := if_pos ⟨rfl, rfl⟩
theorem Tab.put_ne {f : Tab P} {a b x y : P} {s : Int} (h : ¬ (x = a ∧ y = b)) : f.put a b s x y = f x y := if_neg h
/-- g tells no more than f anywhere -/
def Below (f g : Tab P) : Prop := ∀ a b s, f a b = some s → ∃ t, g a b = some t ∧ t ≤ s
theorem Below.refl {f : Tab P} : Below f f := fun _ _ s e => ⟨s, e, Int.le_refl _⟩
theorem Below.trans {f g h : Tab P} (a : Below f g) (b : Below g h) : Below f h := fun x y s e => by
  obtain ⟨t, e1, l1⟩ := a x y s e
  obtain ⟨u, e2, l2⟩ := b x y t e1
  exact ⟨u, e2, Int.le_trans l2 l1⟩
theorem Below.put {f : Tab P} {a b : P} {s : Int} (h : ∀ t, f a b = some t → s ≤ t) : Below f (f.put a b s) := fun x y t e => by
  by_cases q : x = a ∧ y = b
  · obtain ⟨rfl, rfl⟩ := q
    exact ⟨s, Tab.put_same, h t e⟩
  · exact ⟨t, (Tab.put_ne q).trans e, Int.le_refl _⟩

/-! ### ways of just so many conditions -/
structure Exact (C : List (Cond P)) (V : List P) (k : Nat) (f : Tab P) : Prop where
  s : ∀ a b s, f a b = some s → ∃ vs, W C a b vs s ∧ vs.length = k
  c : ∀ a b vs s, a ∈ V → W C a b vs s → vs.length = k → ∃ t, f a b = some t ∧ t ≤ s
theorem Exact.zero {C : List (Cond P)} {V : List P} {f : Tab P} (h : ∀ a b s, f a b = some s ↔ (a ∈ V ∧ a = b ∧ s = 0)) : Exact C V 0 f where
  s := fun a b s e => by
    obtain ⟨_, rfl, rfl⟩ := (h a b s).mp e
    exact ⟨[], .nil, rfl⟩
  c := fun a b vs s ha w l => by
    cases vs with
    | nil =>
      obtain ⟨rfl, rfl⟩ := w.zero
      exact ⟨0, (h a a 0).mpr ⟨ha, rfl, rfl⟩, Int.le_refl _⟩
    | cons x r => simp at l
/-- a table under way: one condition more ahead of the ways of sums -/
structure Lg (C : List (Cond P)) (sums told : Tab P) (D : Cond P → P → Prop) : Prop where
  s : ∀ a b s, told a b = some s → ∃ d m t, (a, d, m) ∈ C ∧ sums d b = some t ∧ s = m + t
  c : ∀ a d m b t, D (a, d, m) b → sums d b = some t → ∃ s, told a b = some s ∧ s ≤ m + t
theorem Lg.start {C : List (Cond P)} {sums : Tab P} : Lg C sums (fun _ _ => none) (fun _ _ => False) :=
  ⟨fun _ _ _ e => (nomatch e), fun _ _ _ _ _ h _ => h.elim⟩
theorem Lg.skip {C : List (Cond P)} {sums told : Tab P} {D : Cond P → P → Prop} (h : Lg C sums told D) {a d b : P} {m : Int} (e : sums d b = none) :
    Lg C sums told (fun x y => D x y ∨ (x = (a, d, m) ∧ y = b)) :=
  ⟨h.s, fun a' d' m' b' t k q => by
    rcases k with k | ⟨k, rfl⟩
    · exact h.c _ _ _ _ _ k q
    · injection k with k1 k2
      injection k2 with k2 k3
      subst k1 k2 k3
      rw [e] at q
      cases q⟩
theorem Lg.keep {C : List (Cond P)} {sums told : Tab P} {D : Cond P → P → Prop} (h : Lg C sums told D) {a d b : P} {m t s : Int} (e : sums d b = some t) (k : told a b = some s) (l : ¬ m + t < s) :
    Lg C sums told (fun x y => D x y ∨ (x = (a, d, m) ∧ y = b)) :=
  ⟨h.s, fun a' d' m' b' t' q r => by
    rcases q with q | ⟨q, rfl⟩
    · exact h.c _ _ _ _ _ q r
    · injection q with k1 k2
      injection k2 with k2 k3
      subst k1 k2 k3
      rw [e] at r
      cases r
      exact ⟨s, k, by omega⟩⟩
theorem Lg.put {C : List (Cond P)} {sums told : Tab P} {D : Cond P → P → Prop} (h : Lg C sums told D) {a d b : P} {m t : Int} (hc : (a, d, m) ∈ C) (e : sums d b = some t)
    (l : ∀ s, told a b = some s → m + t < s) : Lg C sums (told.put a b (m + t)) (fun x y => D x y ∨ (x = (a, d, m) ∧ y = b)) := by
  have bl : Below told (told.put a b (m + t)) := .put fun s q => by have := l s q; omega
  refine ⟨fun a' b' s q => ?_, fun a' d' m' b' t' q r => ?_⟩
  · by_cases z : a' = a ∧ b' = b
    · obtain ⟨rfl, rfl⟩ := z
      rw [Tab.put_same] at q
      cases q
      exact ⟨d, m, t, hc, e, rfl⟩
    · rw [Tab.put_ne z] at q
      exact h.s _ _ _ q
  · rcases q with q | ⟨q, rfl⟩
    · obtain ⟨s, q1, q2⟩ := h.c _ _ _ _ _ q r
      obtain ⟨u, u1, u2⟩ := bl _ _ _ q1
      exact ⟨u, u1, by omega⟩
    · injection q with k1 k2
      injection k2 with k2 k3
      subst k1 k2 k3
      rw [e] at r
      cases r
      exact ⟨_, Tab.put_same, Int.le_refl _⟩
theorem Lg.weaken {C : List (Cond P)} {sums told : Tab P} {D E : Cond P → P → Prop} (h : Lg C sums told D) (i : ∀ x y, E x y → D x y) : Lg C sums told E :=
  ⟨h.s, fun a d m b t q => h.c a d m b t (i _ _ q)⟩
theorem Lg.done {C : List (Cond P)} {V : List P} (i : In V C) {sums told : Tab P} {D : Cond P → P → Prop} {k : Nat} (h : Lg C sums told D) (x : Exact C V k sums) (hd : ∀ c ∈ C, ∀ b ∈ V, D c b) : Exact C V (k + 1) told where
  s := fun a b s e => by
    obtain ⟨d, m, t, hc, e1, rfl⟩ := h.s a b s e
    obtain ⟨vs, w, l⟩ := x.s d b t e1
    exact ⟨d :: vs, .cons hc w, by simp [l]⟩
  c := fun a b vs s ha w l => by
    cases w with
    | nil => simp at l
    | @cons _ d _ m s vs e w =>
      have hb : b ∈ V := by
        cases vs with
        | nil => obtain ⟨rfl, _⟩ := w.zero; exact (i _ e).2
        | cons y r =>
          obtain ⟨v1, v2⟩ := W.part w (p := b) (by
            clear l
            have : ∀ {p q : P} {us : List P} {z : Int}, W C p q us z → us ≠ [] → q ∈ us := by
              intro p q us z w'
              induction w' with
              | nil => intro n; exact absurd rfl n
              | @cons a b c m s vs e k ih =>
                intro _
                cases vs with
                | nil => obtain ⟨rfl, _⟩ := k.zero; exact List.mem_cons_self ..
                | cons u r => exact List.mem_cons_of_mem _ (ih (by simp))
            exact this w (by simp))
          exact w.sub i b (by
            have : ∀ {p q : P} {us : List P} {z : Int}, W C p q us z → us ≠ [] → q ∈ us := by
              intro p q us z w'
              induction w' with
              | nil => intro n; exact absurd rfl n
              | @cons a b c m s vs e k ih =>
                intro _
                cases vs with
                | nil => obtain ⟨rfl, _⟩ := k.zero; exact List.mem_cons_self ..
                | cons u r => exact List.mem_cons_of_mem _ (ih (by simp))
            exact this w (by simp))
      obtain ⟨t, e1, l1⟩ := x.c d b vs s (i _ e).2 w (by simpa using l)
      obtain ⟨u, u1, u2⟩ := h.c _ _ _ _ _ (hd _ e _ hb) e1
      exact ⟨u, u1, by omega⟩
end KN

set_option linter.all false
namespace KN
variable {P : Type} [DecidableEq P]
theorem W.last {C : List (Cond P)} {V : List P} (i : In V C) {a b : P} {vs : List P} {s : Int} (w : W C a b vs s) (ha : a ∈ V) : b ∈ V := by
  induction w with
  | nil => exact ha
  | cons e _ ih => exact ih (i _ e).2
theorem W.first {C : List (Cond P)} {V : List P} (i : In V C) {a b : P} {vs : List P} {s : Int} (w : W C a b vs s) (hn : vs ≠ []) : a ∈ V := by
  cases w with
  | nil => exact absurd rfl hn
  | cons e _ => exact (i _ e).1
theorem ring_in {C : List (Cond P)} {V : List P} (i : In V C) (r : Ring C) : ∃ p ∈ V, ∃ vs s, W C p p vs s ∧ s < 0 ∧ 1 ≤ vs.length ∧ vs.length ≤ V.length := by
  obtain ⟨p, vs, s, w, l⟩ := r
  obtain ⟨q, us, t, w2, l2, n2⟩ := ring_short i vs.length (Nat.le_refl _) w l
  have hn : us ≠ [] := by
    rintro rfl
    obtain ⟨_, rfl⟩ := w2.zero
    omega
  exact ⟨q, w2.first i hn, us, t, w2, l2, List.length_pos_iff.mpr hn, n2⟩

/-- what the search for a ring finds -/
theorem ring_iff {C : List (Cond P)} {V : List P} (i : In V C) (F : Nat → Tab P) (h : ∀ k, k ≤ V.length → Exact C V k (F k)) :
    Ring C ↔ ∃ k, k < V.length ∧ ∃ a d m t, (a, d, m) ∈ C ∧ F k d a = some t ∧ m + t < 0 := by
  constructor
  · intro r
    obtain ⟨p, hp, vs, s, w, l, l1, l2⟩ := ring_in i r
    cases w with
    | nil => simp at l1
    | @cons _ d _ m s vs e w =>
      simp only [List.length_cons] at l2
      obtain ⟨t, e1, e2⟩ := (h vs.length (by omega)).c d p vs s (i _ e).2 w rfl
      exact ⟨vs.length, by omega, p, d, m, t, e, e1, by omega⟩
  · rintro ⟨k, hk, a, d, m, t, e, e1, l⟩
    obtain ⟨vs, w, _⟩ := (h k (by omega)).s d a t e1
    exact ⟨a, _, _, .cons e w, l⟩
/-- the least sum among ways -/
def Least (C : List (Cond P)) (a b : P) : Option Int → Prop
  | none => ∀ vs s, ¬ W C a b vs s
  | some t => (∃ vs, W C a b vs t) ∧ ∀ vs s, W C a b vs s → t ≤ s
theorem Least.one {C : List (Cond P)} {a b : P} : ∀ {x y : Option Int}, Least C a b x → Least C a b y → x = y
  | none, none, _, _ => rfl
  | none, some t, h, ⟨⟨vs, w⟩, _⟩ => (h vs t w).elim
  | some t, none, ⟨⟨vs, w⟩, _⟩, h => (h vs t w).elim
  | some t, some u, ⟨⟨vs, w⟩, h⟩, ⟨⟨vs', w'⟩, h'⟩ => by
    have := h _ _ w'
    have := h' _ _ w
    rw [show t = u by omega]
theorem Least.imp {C : List (Cond P)} {c : Cond P} (nn : ¬ Ring C) : ∀ {x : Option Int}, Least C c.1 c.2.1 x → (Imp C c ↔ ∃ t, x = some t ∧ t ≤ c.2.2)
  | none, h => ⟨fun k => (k.resolve_left nn).elim fun vs ⟨s, w, _⟩ => (h vs s w).elim, fun ⟨_, e, _⟩ => nomatch e⟩
  | some t, ⟨⟨vs, w⟩, h⟩ => ⟨fun k => by
      obtain ⟨us, s, w', l⟩ := k.resolve_left nn
      exact ⟨t, rfl, Int.le_trans (h _ _ w') l⟩, fun ⟨u, e, l⟩ => by cases e; exact .inr ⟨vs, t, w, l⟩⟩
/-- what the tables of few conditions have, without a ring -/
theorem least_of {C : List (Cond P)} {V : List P} (i : In V C) (nn : ¬ Ring C) (F : Nat → Tab P) (h : ∀ k, k ≤ V.length → Exact C V k (F k)) {a b : P} (ha : a ∈ V) {x : Option Int}
    (hx : match x with | none => ∀ k, k ≤ V.length → F k a b = none | some t => (∃ k, k ≤ V.length ∧ F k a b = some t) ∧ ∀ k, k ≤ V.length → ∀ s, F k a b = some s → t ≤ s) : Least C a b x := by
  have few : ∀ vs s, W C a b vs s → ∃ k, k ≤ V.length ∧ ∃ t, F k a b = some t ∧ t ≤ s := fun vs s w => by
    obtain ⟨us, t, w', l1, l2⟩ := short i (noNeg_iff.mpr nn) vs.length (Nat.le_refl _) ha w
    obtain ⟨u, e, l3⟩ := (h us.length (by omega)).c a b us t ha w' rfl
    exact ⟨us.length, by omega, u, e, by omega⟩
  cases x with
  | none =>
    intro vs s w
    obtain ⟨k, hk, t, e, _⟩ := few vs s w
    rw [hx k hk] at e
    cases e
  | some t =>
    obtain ⟨⟨k, hk, e⟩, hm⟩ := hx
    obtain ⟨vs, w, _⟩ := (h k hk).s a b t e
    refine ⟨⟨vs, w⟩, fun us s w' => ?_⟩
    obtain ⟨k', hk', u, e', l⟩ := few us s w'
    exact Int.le_trans (hm k' hk' u e') l

/-! ### the law's own table, bettered in place -/
structure Bett (C : List (Cond P)) (V : List P) (r : Nat) (f : Tab P) : Prop where
  s : ∀ a b s, f a b = some s → ∃ vs, W C a b vs s
  c : ∀ a b vs s, a ∈ V → W C a b vs s → vs.length ≤ r → ∃ t, f a b = some t ∧ t ≤ s
theorem Bett.zero {C : List (Cond P)} {V : List P} {f : Tab P} (h : ∀ a b s, f a b = some s ↔ (a ∈ V ∧ a = b ∧ s = 0)) : Bett C V 0 f where
  s := fun a b s e => by
    obtain ⟨_, rfl, rfl⟩ := (h a b s).mp e
    exact ⟨[], .nil⟩
  c := fun a b vs s ha w l => by
    cases vs with
    | nil =>
      obtain ⟨rfl, rfl⟩ := w.zero
      exact ⟨0, (h a a 0).mpr ⟨ha, rfl, rfl⟩, Int.le_refl _⟩
    | cons x r => simp at l
/-- a round under way -/
structure Rnd (C : List (Cond P)) (f0 f : Tab P) (D : Cond P → P → Prop) : Prop where
  s : ∀ a b s, f a b = some s → ∃ vs, W C a b vs s
  b : Below f0 f
  c : ∀ a d m b t, D (a, d, m) b → f0 d b = some t → ∃ s, f a b = some s ∧ s ≤ m + t
theorem Rnd.start {C : List (Cond P)} {V : List P} {r : Nat} {f : Tab P} (h : Bett C V r f) : Rnd C f f (fun _ _ => False) :=
  ⟨h.s, .refl, fun _ _ _ _ _ q => q.elim⟩
theorem Rnd.skip {C : List (Cond P)} {f0 f : Tab P} {D : Cond P → P → Prop} (h : Rnd C f0 f D) {a d b : P} {m : Int} (e : f d b = none) :
    Rnd C f0 f (fun x y => D x y ∨ (x = (a, d, m) ∧ y = b)) :=
  ⟨h.s, h.b, fun a' d' m' b' t k q => by
    rcases k with k | ⟨k, rfl⟩
    · exact h.c _ _ _ _ _ k q
    · injection k with k1 k2
      injection k2 with k2 k3
      subst k1 k2 k3
      obtain ⟨u, e', _⟩ := h.b _ _ _ q
      rw [e] at e'
      cases e'⟩
/-- found[one, near] = min(total, found.get((one, near), total)) -/
theorem Rnd.put {C : List (Cond P)} {f0 f : Tab P} {D : Cond P → P → Prop} (h : Rnd C f0 f D) {a d b : P} {m t z : Int} (hc : (a, d, m) ∈ C) (e : f d b = some t)
    (hz : (z = m + t ∧ ∀ s, f a b = some s → m + t ≤ s) ∨ (f a b = some z ∧ z ≤ m + t)) : Rnd C f0 (f.put a b z) (fun x y => D x y ∨ (x = (a, d, m) ∧ y = b)) := by
  have bl : Below f (f.put a b z) := .put fun s q => by
    rcases hz with ⟨rfl, k⟩ | ⟨k, _⟩
    · exact k s q
    · rw [k] at q; cases q; exact Int.le_refl _
  have zl : z ≤ m + t := by
    rcases hz with ⟨rfl, _⟩ | ⟨_, k⟩
    · exact Int.le_refl _
    · exact k
  refine ⟨fun a' b' s q => ?_, h.b.trans bl, fun a' d' m' b' t' q r => ?_⟩
  · by_cases y : a' = a ∧ b' = b
    · obtain ⟨rfl, rfl⟩ := y
      rw [Tab.put_same] at q
      cases q
      rcases hz with ⟨rfl, _⟩ | ⟨k, _⟩
      · obtain ⟨vs, w⟩ := h.s _ _ _ e
        exact ⟨_, .cons hc w⟩
      · exact h.s _ _ _ k
    · rw [Tab.put_ne y] at q
      exact h.s _ _ _ q
  · rcases q with q | ⟨q, rfl⟩
    · obtain ⟨s, q1, q2⟩ := h.c _ _ _ _ _ q r
      obtain ⟨u, u1, u2⟩ := bl _ _ _ q1
      exact ⟨u, u1, by omega⟩
    · injection q with k1 k2
      injection k2 with k2 k3
      subst k1 k2 k3
      obtain ⟨u, u1, u2⟩ := h.b _ _ _ r
      rw [e] at u1
      cases u1
      exact ⟨z, Tab.put_same, by omega⟩
theorem Rnd.weaken {C : List (Cond P)} {f0 f : Tab P} {D E : Cond P → P → Prop} (h : Rnd C f0 f D) (i : ∀ x y, E x y → D x y) : Rnd C f0 f E :=
  ⟨h.s, h.b, fun a d m b t q => h.c a d m b t (i _ _ q)⟩
theorem Rnd.done {C : List (Cond P)} {V : List P} (i : In V C) {f0 f : Tab P} {D : Cond P → P → Prop} {r : Nat} (h : Rnd C f0 f D) (x : Bett C V r f0) (hd : ∀ c ∈ C, ∀ b ∈ V, D c b) : Bett C V (r + 1) f where
  s := h.s
  c := fun a b vs s ha w l => by
    cases w with
    | nil =>
      obtain ⟨t, e, l1⟩ := x.c a a [] 0 ha .nil (by simp)
      obtain ⟨u, e2, l2⟩ := h.b _ _ _ e
      exact ⟨u, e2, by omega⟩
    | @cons _ d _ m s vs e w =>
      have hb : b ∈ V := w.last i (i _ e).2
      obtain ⟨t, e1, l1⟩ := x.c d b vs s (i _ e).2 w (by simpa using l)
      obtain ⟨u, u1, u2⟩ := h.c _ _ _ _ _ (hd _ e _ hb) e1
      exact ⟨u, u1, by omega⟩
theorem Bett.ring {C : List (Cond P)} {V : List P} (i : In V C) {f : Tab P} (h : Bett C V V.length f) : Ring C ↔ ∃ p ∈ V, ∃ s, f p p = some s ∧ s < 0 := by
  constructor
  · intro r
    obtain ⟨p, hp, vs, s, w, l, _, l2⟩ := ring_in i r
    obtain ⟨t, e, l3⟩ := h.c p p vs s hp w l2
    exact ⟨p, hp, t, e, by omega⟩
  · rintro ⟨p, hp, s, e, l⟩
    obtain ⟨vs, w⟩ := h.s _ _ _ e
    exact ⟨p, vs, s, w, l⟩
theorem Bett.least {C : List (Cond P)} {V : List P} (i : In V C) (nn : ¬ Ring C) {f : Tab P} (h : Bett C V V.length f) {a b : P} (ha : a ∈ V) : Least C a b (f a b) := by
  have few : ∀ vs s, W C a b vs s → ∃ t, f a b = some t ∧ t ≤ s := fun vs s w => by
    obtain ⟨us, t, w', l1, l2⟩ := short i (noNeg_iff.mpr nn) vs.length (Nat.le_refl _) ha w
    obtain ⟨u, e, l3⟩ := h.c a b us t ha w' (by omega)
    exact ⟨u, e, by omega⟩
  cases q : f a b with
  | none =>
    intro vs s w
    obtain ⟨t, e, _⟩ := few vs s w
    rw [q] at e
    cases e
  | some t =>
    obtain ⟨vs, w⟩ := h.s _ _ _ q
    refine ⟨⟨vs, w⟩, fun us s w' => ?_⟩
    obtain ⟨u, e, l⟩ := few us s w'
    rw [q] at e
    cases e
    exact l
/-- two tables of ones without a ring are the same just if all conditions of each follow from the other -/
theorem alike_tabs {C D : List (Cond P)} {V : List P} (iC : In V C) (iD : In V D) (nC : ¬ Ring C) (nD : ¬ Ring D) {f g : Tab P} (hf : Bett C V V.length f) (hg : Bett D V V.length g) :
    (∀ a ∈ V, ∀ b, f a b = g a b) ↔ ((∀ c ∈ D, Imp C c) ∧ (∀ c ∈ C, Imp D c)) := by
  have one : ∀ {C D : List (Cond P)} {f g : Tab P}, In V C → In V D → ¬ Ring C → ¬ Ring D → Bett C V V.length f → Bett D V V.length g →
      (∀ a ∈ V, ∀ b, f a b = g a b) → ∀ c ∈ D, Imp C c := by
    intro C D f g iC iD nC nD hf hg e c hc
    have ha := (iD _ hc).1
    have lc := hf.least iC nC (b := c.2.1) ha
    have ld := hg.least iD nD (b := c.2.1) ha
    rw [e _ ha] at lc
    exact (lc.imp nC).mpr ((ld.imp nD).mp (.mem hc))
  refine ⟨fun e => ⟨one iC iD nC nD hf hg e, one iD iC nD nC hg hf fun a ha b => (e a ha b).symm⟩, fun ⟨h1, h2⟩ a ha b => ?_⟩
  have lc := hf.least iC nC (b := b) ha
  have ld := hg.least iD nD (b := b) ha
  -- D's least is C's
  have go : ∀ {C D : List (Cond P)}, ¬ Ring C → ¬ Ring D → (∀ c ∈ D, Imp C c) → (∀ c ∈ C, Imp D c) → ∀ {x : Option Int}, Least D a b x → Least C a b x := by
    intro C D nC nD h1 h2 x hx
    cases x with
    | none =>
      intro vs s w
      rcases w.over h2 with r | ⟨us, t, w', _⟩
      · exact nD r
      · exact hx us t w'
    | some t =>
      obtain ⟨⟨vs, w⟩, hm⟩ := hx
      rcases w.over h1 with r | ⟨us, u, w', l⟩
      · exact (nC r).elim
      · rcases w'.over h2 with r | ⟨us2, u2, w2, l2⟩
        · exact (nD r).elim
        · have := hm _ _ w2
          have e : u = t := by omega
          subst e
          refine ⟨⟨us, w'⟩, fun vs' s' w3 => ?_⟩
          rcases w3.over h2 with r | ⟨us4, u4, w4, l4⟩
          · exact (nD r).elim
          · have := hm _ _ w4
            omega
  exact lc.one (go nC nD h1 h2 ld)

/-! ### the move: changes bettered in place -/
structure Mov (C : List (Cond P)) (V : List P) (r : Nat) (f : P → Int) : Prop where
  s : ∀ a ∈ V, ∃ b vs, W C a b vs (f a)
  c : ∀ a b vs s, a ∈ V → W C a b vs s → vs.length ≤ r → f a ≤ s
theorem Mov.zero {C : List (Cond P)} {V : List P} {f : P → Int} (h : ∀ a ∈ V, f a = 0) : Mov C V 0 f where
  s := fun a ha => ⟨a, [], (h a ha).symm ▸ .nil⟩
  c := fun a b vs s ha w l => by
    cases vs with
    | nil => obtain ⟨_, rfl⟩ := w.zero; exact Int.le_of_eq (h a ha)
    | cons x r => simp at l
structure MRnd (C : List (Cond P)) (V : List P) (f0 f : P → Int) (D : Cond P → Prop) : Prop where
  s : ∀ a ∈ V, ∃ b vs, W C a b vs (f a)
  b : ∀ a ∈ V, f a ≤ f0 a
  c : ∀ x, D x → f x.1 ≤ f0 x.2.1 + x.2.2
theorem MRnd.start {C : List (Cond P)} {V : List P} {r : Nat} {f : P → Int} (h : Mov C V r f) : MRnd C V f f (fun _ => False) := ⟨h.s, fun _ _ => Int.le_refl _, fun _ q => q.elim⟩
theorem MRnd.put {C : List (Cond P)} {V : List P} {f0 f : P → Int} {D : Cond P → Prop} (i : In V C) (h : MRnd C V f0 f D) {a d : P} {m : Int} (hc : (a, d, m) ∈ C) (hD : ∀ x, D x → x ∈ C) :
    MRnd C V f0 (fun p => if p = a then min (f a) (f d + m) else f p) (fun x => D x ∨ x = (a, d, m)) := by
  have ha := (i _ hc).1
  have hd := (i _ hc).2
  dsimp only at ha hd
  refine ⟨fun p hp => ?_, fun p hp => ?_, fun x q => ?_⟩
  · split
    · rename_i e
      subst e
      by_cases l : f p ≤ f d + m
      · rw [Int.min_eq_left l]; exact h.s p hp
      · rw [Int.min_eq_right (by omega)]
        obtain ⟨b, vs, w⟩ := h.s d hd
        have w2 : W C p b (d :: vs) (m + f d) := .cons hc w
        rw [Int.add_comm] at w2
        exact ⟨b, _, w2⟩
    · exact h.s p hp
  · split
    · rename_i e
      subst e
      exact Int.le_trans (Int.min_le_left _ _) (h.b p hp)
    · exact h.b p hp
  · rcases q with q | rfl
    · have := h.c x q
      split
      · rename_i e
        have z := Int.min_le_left (f a) (f d + m)
        rw [e] at this
        exact Int.le_trans z this
      · exact this
    · rw [if_pos rfl]
      have z := Int.min_le_right (f a) (f d + m)
      have z2 := h.b d hd
      show min (f a) (f d + m) ≤ f0 d + m
      exact Int.le_trans z (Int.add_le_add_right z2 m)
theorem MRnd.done {C : List (Cond P)} {V : List P} (i : In V C) {f0 f : P → Int} {D : Cond P → Prop} {r : Nat} (h : MRnd C V f0 f D) (x : Mov C V r f0) (hd : ∀ c ∈ C, D c) : Mov C V (r + 1) f where
  s := h.s
  c := fun a b vs s ha w l => by
    cases w with
    | nil =>
      have := x.c a a [] 0 ha .nil (by simp)
      have := h.b a ha
      omega
    | @cons _ d _ m s vs e w =>
      have := x.c d b vs s (i _ e).2 w (by simpa using l)
      have := h.c _ (hd _ e)
      dsimp only at this
      omega
theorem Mov.keeps {C : List (Cond P)} {V : List P} (i : In V C) (nn : ¬ Ring C) {f : P → Int} (h : Mov C V V.length f) : ∀ c ∈ C, f c.1 - f c.2.1 ≤ c.2.2 := by
  rintro ⟨a, d, m⟩ hc
  obtain ⟨b, vs, w⟩ := h.s d (i _ hc).2
  have ha := (i _ hc).1
  obtain ⟨us, t, w', l1, l2⟩ := short i (noNeg_iff.mpr nn) (d :: vs).length (Nat.le_refl _) ha (.cons hc w)
  have := h.c a b us t ha w' (by omega)
  dsimp only
  omega
end KN

set_option Elab.async false
set_option linter.all false
set_option maxRecDepth 100000
set_option maxHeartbeats 2000000
namespace KM
open PySem PySem.Spec PyProof.Rows L2 GL

def top (i : Nat) : Stmt := PySem.Challenge.pw_lateledger_k52_whole_moves_rings_and_cha.main.body.getD i (.Pass ⟨0, 0, 0, 0⟩)
abbrev sPot : Stmt := top 57
abbrev sDraw : Stmt := top 58
abbrev sPick : Stmt := top 59

/-- built-in names that the text leaves as they are -/
structure Bi (mg : Str → Option Value) : Prop where
  len : mg "len" = none
  divmod : mg "divmod" = none
  int : mg "int" = none
  abs : mg "abs" = none
  max : mg "max" = none
  min : mg "min" = none
  range : mg "range" = none
  list : mg "list" = none
  tuple : mg "tuple" = none
  repr : mg "repr" = none
  sorted : mg "sorted" = none
  enumerate : mg "enumerate" = none
  all : mg "all" = none
  any : mg "any" = none
  isinstance : mg "isinstance" = none
  str : mg "str" = none
  bool : mg "bool" = none
  dict : mg "dict" = none
  sum : mg "sum" = none
  reversed : mg "reversed" = none

/-- a pot stands at p -/
def PotAt (H : Hp) (p : Addr) : Prop := ∃ a b : Int, H p = some (.lst [.int a, .int b]) ∧ 0 ≤ a ∧ 0 ≤ b ∧ b < 4294967296
theorem cdiv {i j : Int} (h0 : 0 < j) (h1 : j < 1048576) : CDivP i j := by
  refine ⟨h0, ?_⟩
  unfold Builtin.divisionGoesByPylong
  have z : j.natAbs.log2 / 30 + 1 ≤ 300 := by
    have : j.natAbs.log2 < 20 := (Nat.log2_lt (by omega)).mpr (by omega)
    omega
  have z2 : ¬ (j = 0) := by omega
  simp [z2]
  omega

/-- draw(pot, n): from 0 to n - 1; the pot stays one -/
def spDraw : Sp := fun vs H Q _ => ∃ (p : Addr) (n : Int), vs = [.ref p, .int n] ∧ PotAt H p ∧ 0 < n ∧ n < 1048576 ∧
  ∀ (d : Int) (H' : Hp), 0 ≤ d → d < n → PotAt H' p → But p H H' → Q (.int d) H'

section
variable {P : Program} {w : World} {K : PySem.W.Frag} {mg : Str → Option Value} {base : Heap}

theorem scDraw : FnScope ["_law_pot_here", "_law_many", "_law_digit"] ["_law_pot_here", "_law_many"] (defScope sDraw) :=
  ⟨rfl, rfl, rfl, by decide +kernel, rfl, by decide +kernel, by decide +kernel⟩
theorem ok_draw {f : Addr} {fd : FuncData} (F : Fun K "_law_draw" "_law_draw" sDraw f fd) (T : Bi mg) : FnG P w K mg base CX0 1 f fd ["_law_pot_here", "_law_many"] spDraw := by
  refine okG F scDraw (fun vs H Q E h => ?_) (fun cdv A out s H vs Q E g hr h => ?_)
  · obtain ⟨p, n, rfl, _⟩ := h
    rfl
  · obtain ⟨p, n, rfl, ⟨a, b, hp, ha, hb, hb2⟩, hn, hn2, q⟩ := h
    refine ⟨_, pss_cons (ps_if (pt_cmpR op_gt (pe_ix ix_list (pv 0) pe_int (fun _ _ => rfl)) pe_int (nomark _))
        (pss_cons (ps_asg (pe_callB call_divmodW (by rfl) T.divmod (by decide +kernel) (pa_cons (pe_ix ix_list (pv 0) pe_int (fun _ _ => rfl)) (pa_cons (pv 1) pa_nil)))
          (pg_tup rfl (pgs_cons (pg_sub (pv 0) pe_int set_list) (pgs_cons (pg_name (i := 2) scDraw.nd rfl (.inl rfl)) pgs_nil)))) (pss_one (ps_ret (pv 2)))) pss_nil)
      (pss_cons (ps_asg (pe_op op_mod_l (pe_callTy call_int1 (by rfl) T.int (by decide +kernel) (pa_cons (pe_op op_add (pe_op op_mul (pe_ix ix_list (pv 0) pe_int (fun _ _ => rfl)) pe_int) pe_int) pa_nil)) pe_int)
          (pg_sub (pv 0) pe_int set_list))
      (pss_one (ps_ret (pe_op op_mod_l (pe_callTy call_int1 (by rfl) T.int (by decide +kernel) (pa_cons (pe_op op_div_l (pe_op op_mod_l
        (pe_callTy call_int1 (by rfl) T.int (by decide +kernel) (pa_cons (pe_op op_mul (pe_ix ix_list (pv 0) pe_int (fun _ _ => rfl)) (pe_ix ix_list (pv 0) pe_int (fun _ _ => rfl))) pa_nil)) pe_int) pe_int) pa_nil)) (pv 1))))), ?_⟩
    refine ⟨_, rfl, p, _, 0, .int a, rfl, rfl, SqL.of hp, rfl, a, 0, rfl, rfl, _, rfl, ?_⟩
    refine ite2 (fun c => ?_) (fun c => ?_)
    · have c0 : 0 < a := of_decide_eq_true c
      refine ⟨_, rfl, p, _, 0, .int a, rfl, rfl, SqL.of hp, rfl, _, rfl, a, n, rfl, cdiv hn hn2, fun t ht => ?_⟩
      have npt : p ≠ t := ne_of_none hp ht
      refine ⟨t, _, rfl, SqT.of upd_same, rfl, _, _, rfl, _, rfl, p, _, 0, 0, rfl, rfl, (by rw [upd_ne npt]; exact hp), rfl, _, _, rfl, rfl, _, rfl, ?_⟩
      refine q (a % n) _ (Int.emod_nonneg _ (by omega)) (Int.emod_lt_of_pos _ hn) ⟨a / n, b, upd_same, Int.ediv_nonneg ha (by omega), hb, hb2⟩ ?_
      exact (But.new But.refl ht).upd
    · refine ⟨_, rfl, p, _, 1, .int b, rfl, rfl, SqL.of hp, rfl, _, _, rfl, rfl, .inl ⟨by omega, by omega⟩, _, _, rfl, rfl, .inl ⟨_, rfl, _, _, rfl, rfl, (by decide), fun b' n1 n2 _ => ?_⟩⟩
      refine ⟨_, rfl, p, _, 1, 1, rfl, rfl, hp, rfl, ?_⟩
      refine ⟨_, rfl, p, _, 1, .int b', rfl, rfl, SqL.of upd_same, rfl, _, rfl, p, _, 1, .int b', rfl, rfl, SqL.of upd_same, rfl, _, _, rfl, rfl, .inl ⟨by omega, by omega⟩, .inl ⟨_, rfl, _, _, rfl, rfl, (by decide), fun c1 _ _ _ => ?_⟩⟩
      refine ⟨_, _, rfl, rfl, ⟨by decide, by decide⟩, fun c2 _ => .inl ⟨_, rfl, _, rfl, _, _, rfl, rfl, hn, fun d d0 d1 _ => ?_⟩⟩
      exact q d _ d0 d1 ⟨a, b', upd_same, ha, n1, by omega⟩ But.refl.upd

/-- pick(pot, some): one of the list -/
def spPick (K : PySem.W.Frag) : Sp := fun vs H Q _ => ∃ (p l : Addr) (xs : List V), vs = [.ref p, .ref l] ∧ PotAt H p ∧ SqL K H l xs ∧ l ≠ p ∧ 0 < xs.length ∧ xs.length < 1048576 ∧
  ∀ (i : Nat) (x : V) (H' : Hp), xs[i]? = some x → PotAt H' p → But p H H' → Q x H'
theorem scPick : FnScope ["_law_pot_here", "_law_some"] ["_law_pot_here", "_law_some"] (defScope sPick) :=
  ⟨rfl, rfl, rfl, by decide +kernel, rfl, by decide +kernel, by decide +kernel⟩
theorem atI_of {xs : List V} {d : Int} (h0 : 0 ≤ d) (h1 : d < xs.length) : ∃ v, atI xs d = some v ∧ xs[d.toNat]? = some v := by
  have n : d.toNat < xs.length := by omega
  refine ⟨xs[d.toNat], ?_, List.getElem?_eq_getElem n⟩
  unfold atI ixN
  rw [if_pos h0, if_pos h1]
  simp [n]
theorem ok_pick {f : Addr} {fd : FuncData} (F : Fun K "_law_pick" "_law_pick" sPick f fd) (T : Bi mg)
    (D : Has P w K mg base "_law_draw" 1 ["_law_pot_here", "_law_many"] spDraw) :
    FnG P w K mg base CX0 2 f fd ["_law_pot_here", "_law_some"] (spPick K) := by
  refine okG F scPick (fun vs H Q E h => ?_) (fun cdv A out s H vs Q E g hr h => ?_)
  · obtain ⟨p, l, xs, rfl, _⟩ := h
    rfl
  · obtain ⟨p, l, xs, rfl, hp, hl, hne, h0, h1, q⟩ := h
    refine ⟨_, pss_one (ps_ret (pe_ix ix_list (pv 1) (pe_has D g hr (by rfl) (pa_cons (pv 0) (pa_cons (pe_callB call_len_seq (by rfl) T.len PySem.boot_len (pa_cons (pv 1) pa_nil)) pa_nil))) (fun _ _ => rfl))), ?_⟩
    refine ⟨_, rfl, _, rfl, _, rfl, l, xs, rfl, .inl hl, rfl, rfl, p, _, rfl, hp, by omega, by omega, fun d H' d0 d1 hp' b => ?_⟩
    obtain ⟨v, e1, e2⟩ := atI_of d0 d1
    exact ⟨l, xs, d, v, rfl, rfl, b.seq hne hl, e1, q _ v H' e2 hp' b⟩
end
end KM

set_option Elab.async false
set_option linter.all false
set_option maxRecDepth 100000
set_option maxHeartbeats 2000000
namespace KM
open PySem PySem.Spec PyProof.Rows L2 GL

/-! ### the data: goods, rows -/
abbrev Row := Option Str × Option Str × Int
def oV : Option Str → V
  | none => .non
  | some x => .str x
def oD : Option Str → PyData
  | none => .none
  | some x => .str x
def rowV (r : Row) : List V := [oV r.1, oV r.2.1, .int r.2.2]
def rowD (r : Row) : PyData := .tuple [oD r.1, oD r.2.1, .int r.2.2]
def gsD (gs : List Str) : PyData := .list (gs.map .str)
def rowsD (rs : List Row) : PyData := .list (rs.map rowD)
def names : List Str := ["x", "y", "oil", "tea", "b", "a", "c", "d", "zz"]
structure GoodGs (gs : List Str) : Prop where
  nd : gs.Nodup
  sub : ∀ x ∈ gs, x ∈ names
  l1 : 1 ≤ gs.length
  l2 : gs.length ≤ 4
structure GoodRow (gs : List Str) (r : Row) : Prop where
  ne : r.1 ≠ r.2.1
  one : ∀ x, r.1 = some x → x ∈ gs
  two : ∀ x, r.2.1 = some x → x ∈ gs
  most : r.2.2.natAbs ≤ 1000000000000000000000000000000
abbrev GoodRows (gs : List Str) (rs : List Row) : Prop := ∀ r ∈ rs, GoodRow gs r
theorem GoodGs.perm {gs hs : List Str} (h : GoodGs gs) (p : hs.Perm gs) : GoodGs hs :=
  ⟨(p.nodup_iff).mpr h.nd, fun x hx => h.sub x (p.mem_iff.mp hx), by rw [p.length_eq]; exact h.l1, by rw [p.length_eq]; exact h.l2⟩
theorem GoodRow.of_sub {gs hs : List Str} {r : Row} (h : GoodRow gs r) (s : ∀ x ∈ gs, x ∈ hs) : GoodRow hs r :=
  ⟨h.ne, fun x e => s _ (h.one x e), fun x e => s _ (h.two x e), h.most⟩

/-! ### where they stand -/
def RowAt (H : Hp) (t : Addr) (r : Row) : Prop := H t = some (.tup (rowV r))
abbrev RowsIn (H : Hp) (as : List Addr) (rs : List Row) : Prop := Paired (RowAt H) as rs
theorem rows_keep {H H' : Hp} {as : List Addr} {rs : List Row} (h : RowsIn H as rs) (k : ∀ t xs, H t = some (.tup xs) → H' t = some (.tup xs)) : RowsIn H' as rs :=
  L2.Paired.mapP h fun t r e => k t _ e
theorem rows_but {p : Addr} {zs : List V} {H H' : Hp} {as : List Addr} {rs : List Row} (h : RowsIn H as rs) (b : But p H H') (e : H p = some (.lst zs)) : RowsIn H' as rs :=
  rows_keep h fun t xs z => b t _ (ne_of z e (by intro q; cases q)) z
theorem rows_same {H H' : Hp} {as : List Addr} {rs : List Row} (h : RowsIn H as rs) (b : Same H H') : RowsIn H' as rs :=
  rows_keep h fun t xs z => b t _ z

/-! ### as data -/
theorem dp_o {K : PySem.W.Frag} {H : Hp} : ∀ o : Option Str, Dp K H (oV o) (oD o)
  | none => .non
  | some x => .str x
theorem dp_row {K : PySem.W.Frag} {H : Hp} {t : Addr} {r : Row} (h : RowAt H t r) : Dp K H (.ref t) (rowD r) :=
  .tup (SqT.of h) (.cons (dp_o _) (.cons (dp_o _) (.cons (.int _) .nil)))
theorem dp_rowsAll {K : PySem.W.Frag} {H : Hp} : ∀ {as : List Addr} {rs : List Row}, RowsIn H as rs → DpAll K H (as.map V.ref) (rs.map rowD)
  | _, _, .nil => .nil
  | _, _, .cons h t => .cons (dp_row h) (dp_rowsAll t)
theorem dp_rows {K : PySem.W.Frag} {H : Hp} {c : Addr} {as : List Addr} {rs : List Row} (h : RowsIn H as rs) (e : SqL K H c (as.map V.ref)) : Dp K H (.ref c) (rowsD rs) :=
  .lst e (dp_rowsAll h)
theorem dp_strs {K : PySem.W.Frag} {H : Hp} : ∀ gs : List Str, DpAll K H (gs.map V.str) (gs.map PyData.str)
  | [] => .nil
  | x :: r => .cons (.str x) (dp_strs r)
theorem dp_gs {K : PySem.W.Frag} {H : Hp} {c : Addr} {gs : List Str} (e : SqL K H c (gs.map V.str)) : Dp K H (.ref c) (gsD gs) := .lst e (dp_strs gs)

/-! ### what is shown of them -/
theorem name_len : ∀ x ∈ names, (reprText x).length ≤ 5 := by decide +kernel
theorem shownAll_map {α : Type} (f : α → PyData) : ∀ l : List α, PyData.shownAll (l.map f) = l.map fun a => (f a).shown
  | [] => rfl
  | a :: l => by
    show (f a).shown :: PyData.shownAll (l.map f) = _
    rw [shownAll_map f l]
    rfl
theorem showableAll_map {α : Type} (f : α → PyData) : ∀ l : List α, (∀ a ∈ l, (f a).showable = true) → PyData.showableAll (l.map f) = true
  | [], _ => rfl
  | a :: l, h => by
    show ((f a).showable && PyData.showableAll (l.map f)) = true
    rw [h a List.mem_cons_self, showableAll_map f l fun b hb => h b (List.mem_cons_of_mem _ hb)]
    rfl
theorem hasDictAll_map {α : Type} (f : α → PyData) : ∀ l : List α, (∀ a ∈ l, (f a).hasDict = false) → PyData.hasDictAll (l.map f) = false
  | [], _ => rfl
  | a :: l, h => by
    show ((f a).hasDict || PyData.hasDictAll (l.map f)) = false
    rw [h a List.mem_cons_self, hasDictAll_map f l fun b hb => h b (List.mem_cons_of_mem _ hb)]
    rfl
theorem depthAll_map {α : Type} (f : α → PyData) (n : Nat) : ∀ l : List α, (∀ a ∈ l, (f a).depth ≤ n) → PyData.depthAll (l.map f) ≤ n
  | [], _ => Nat.zero_le _
  | a :: l, h => by
    show max (f a).depth (PyData.depthAll (l.map f)) ≤ n
    have := h a List.mem_cons_self
    have := depthAll_map f n l fun b hb => h b (List.mem_cons_of_mem _ hb)
    omega
theorem sum_le {α : Type} (f : α → Nat) (n : Nat) : ∀ l : List α, (∀ a ∈ l, f a ≤ n) → (l.map f).sum ≤ n * l.length
  | [], _ => Nat.zero_le _
  | a :: l, h => by
    have h1 := h a List.mem_cons_self
    have h2 := sum_le f n l fun b hb => h b (List.mem_cons_of_mem _ hb)
    rw [List.map_cons, List.sum_cons, List.length_cons, Nat.mul_succ]
    omega
/-- the facts of one thing that is shown -/
structure Sh (d : PyData) (n k : Nat) : Prop where
  ok : d.showable = true
  nd : d.hasDict = false
  len : d.shown.length ≤ n
  low : d.depth ≤ k
theorem Sh.shows {d : PyData} {n k : Nat} (h : Sh d n k) (hn : n ≤ 16777216) (hk : k ≤ 8) : Shows d :=
  ⟨h.ok, h.nd, by rw [sizeLine_eq]; exact Nat.le_trans h.len hn, Nat.le_trans h.low hk⟩
theorem sh_o {gs : List Str} (G : GoodGs gs) : ∀ o : Option Str, (∀ x, o = some x → x ∈ gs) → Sh (oD o) 5 0
  | none, _ => ⟨rfl, rfl, by decide +kernel, Nat.le_refl _⟩
  | some x, h => ⟨rfl, rfl, name_len x (G.sub x (h x rfl)), Nat.le_refl _⟩
theorem sh_int {i : Int} (h : i.natAbs ≤ 1000000000000000000000000000000) : Sh (.int i) 33 0 := by
  refine ⟨?_, rfl, ?_, Nat.le_refl _⟩
  · show decide (i.natAbs.log2 < 1920) = true
    refine decide_eq_true ?_
    by_cases z : i.natAbs = 0
    · rw [z]; decide
    · exact Nat.lt_of_lt_of_le ((Nat.log2_lt z).mpr (Nat.lt_of_le_of_lt h (by decide) : i.natAbs < 2 ^ 100)) (by decide)
  · show (Str.ofString (toString i)).length ≤ 33
    have q : (toString i).length ≤ 32 + 1 := int_text_length_le10 (k := 32) (by decide) (Nat.lt_of_le_of_lt h (by decide))
    have e := PySem.ofString_length (toString i)
    omega
theorem sh_row {gs : List Str} (G : GoodGs gs) {r : Row} (h : GoodRow gs r) : Sh (rowD r) 52 1 := by
  have a := sh_o G r.1 h.one
  have b := sh_o G r.2.1 h.two
  have c := sh_int h.most
  refine ⟨?_, ?_, ?_, ?_⟩
  · show ((oD r.1).showable && ((oD r.2.1).showable && ((PyData.int r.2.2).showable && true))) = true
    rw [a.ok, b.ok, c.ok]; rfl
  · show ((oD r.1).hasDict || ((oD r.2.1).hasDict || ((PyData.int r.2.2).hasDict || false))) = false
    rw [a.nd, b.nd, c.nd]; rfl
  · show (tupleText [(oD r.1).shown, (oD r.2.1).shown, (PyData.int r.2.2).shown]).length ≤ 52
    refine Nat.le_trans (tupleText_len_le _) ?_
    have := a.len; have := b.len; have := c.len
    simp only [List.map_cons, List.map_nil, List.sum_cons, List.sum_nil, List.length_cons, List.length_nil]
    omega
  · show max (oD r.1).depth (max (oD r.2.1).depth (max (PyData.int r.2.2).depth 0)) + 1 ≤ 1
    have := a.low; have := b.low; have := c.low
    omega
theorem sh_list {α : Type} (f : α → PyData) (l : List α) {n k : Nat} (h : ∀ a ∈ l, Sh (f a) n k) : Sh (.list (l.map f)) (n * l.length + 2 * l.length + 3) (k + 1) := by
  refine ⟨showableAll_map f l fun a ha => (h a ha).ok, hasDictAll_map f l fun a ha => (h a ha).nd, ?_, ?_⟩
  · show (listText (PyData.shownAll (l.map f))).length ≤ _
    rw [shownAll_map]
    refine Nat.le_trans (listText_len_le _) ?_
    rw [List.map_map, List.length_map]
    have := sum_le (fun a => (f a).shown.length) n l fun a ha => (h a ha).len
    show (l.map fun a => (f a).shown.length).sum + _ + 3 ≤ _
    omega
  · show PyData.depthAll (l.map f) + 1 ≤ k + 1
    exact Nat.succ_le_succ (depthAll_map f k l fun a ha => (h a ha).low)
theorem sh_gs {gs : List Str} (G : GoodGs gs) : Sh (gsD gs) 31 1 := by
  have z := sh_list PyData.str gs (n := 5) (k := 0) fun x hx => ⟨rfl, rfl, name_len x (G.sub x hx), Nat.le_refl _⟩
  exact ⟨z.ok, z.nd, by have := z.len; have := G.l2; show (PyData.list (gs.map .str)).shown.length ≤ 31; omega, z.low⟩
theorem sh_rows {gs : List Str} (G : GoodGs gs) {rs : List Row} (h : GoodRows gs rs) : Sh (rowsD rs) (54 * rs.length + 3) 2 := by
  have z := sh_list rowD rs (n := 52) (k := 1) fun r hr => sh_row G (h r hr)
  exact ⟨z.ok, z.nd, by have := z.len; show (PyData.list (rs.map rowD)).shown.length ≤ _; omega, z.low⟩
def toldD (gs : List Str) (rs : List Row) : PyData := .list [gsD gs, rowsD rs]
theorem sh_told {gs hs : List Str} (G : GoodGs gs) (p : hs.Perm gs) {rs : List Row} (h : GoodRows gs rs) (hl : rs.length ≤ 1000) : Sh (toldD hs rs) 60000 3 := by
  have a := sh_gs (G.perm p)
  have b := sh_rows G h
  refine ⟨?_, ?_, ?_, ?_⟩
  · show ((gsD hs).showable && ((rowsD rs).showable && true)) = true
    rw [a.ok, b.ok]; rfl
  · show ((gsD hs).hasDict || ((rowsD rs).hasDict || false)) = false
    rw [a.nd, b.nd]; rfl
  · show (listText [(gsD hs).shown, (rowsD rs).shown]).length ≤ _
    refine Nat.le_trans (listText_len_le _) ?_
    have := a.len; have := b.len
    simp only [List.map_cons, List.map_nil, List.sum_cons, List.sum_nil, List.length_cons, List.length_nil]
    omega
  · show max (gsD hs).depth (max (rowsD rs).depth 0) + 1 ≤ 3
    have := a.low; have := b.low
    omega
end KM

set_option Elab.async false
set_option linter.all false
set_option maxRecDepth 100000
set_option maxHeartbeats 4000000
namespace KM
open PySem PySem.Spec PyProof.Rows L2 GL
abbrev sScene : Stmt := top 60
def menu : List (List Str) := [["x"], ["x", "y"], ["oil", "tea"], ["b", "oil", "tea"], ["a", "b", "c", "d"]]
theorem menu_good : ∀ gs ∈ menu, GoodGs gs := by
  intro gs h
  have a : ∀ gs ∈ menu, gs.Nodup ∧ (∀ x ∈ gs, x ∈ names) ∧ 1 ≤ gs.length ∧ gs.length ≤ 4 := by decide +kernel
  obtain ⟨h1, h2, h3, h4⟩ := a gs h
  exact ⟨h1, h2, h3, h4⟩
theorem eqv_o : ∀ a b : Option Str, PyData.eqv (oD a) (oD b) = decide (a = b)
  | none, none => by simp [oD, PyData.eqv]
  | none, some _ => by simp [oD, PyData.eqv]
  | some _, none => by simp [oD, PyData.eqv]
  | some x, some y => by
    show (x == y) = decide (some x = some y)
    by_cases h : x = y
    · subst h; simp
    · simp [h]
theorem lay_name : ∀ x ∈ names, PyData.strOk x = true := by decide +kernel
theorem lay_o {gs : List Str} (G : GoodGs gs) : ∀ a : Option Str, (∀ x, a = some x → x ∈ gs) → (oD a).canLay0 = true
  | none, _ => rfl
  | some x, h => lay_name x (G.sub x (h x rfl))
theorem shaped_o {gs : List Str} (G : GoodGs gs) (a : Option Str) (h : ∀ x, a = some x → x ∈ gs) : SeqAt.shaped (oD a) = true := by
  have l := lay_o G a h
  have d : (oD a).depth ≤ 64 := by cases a <;> exact Nat.zero_le _
  show ((oD a).canLay0 && decide ((oD a).depth ≤ 64)) = true
  rw [l, decide_eq_true d]
  rfl
/-- scene(pot, most): goods of the menu, rows of them, most at most -/
def spScene : Sp := fun vs H Q _ => ∃ (p : Addr) (m : Nat), vs = [.ref p, .int (m : Int)] ∧ PotAt H p ∧ m < 100 ∧
  ∀ (gs : List Str) (rs : List Row) (G R t : Addr) (as : List Addr) (H' : Hp), gs ∈ menu → GoodRows gs rs → (∀ r ∈ rs, r.2.2.natAbs ≤ 9) → rs.length ≤ m →
    H t = none → H G = none → H R = none → G ≠ R → H' t = some (.tup [.ref G, .ref R]) → H' G = some (.lst (gs.map V.str)) →
    H' R = some (.lst (as.map V.ref)) → RowsIn H' as rs → PotAt H' p → But p H H' → Q (.ref t) H'
theorem pot_same {H H' : Hp} {p : Addr} (h : PotAt H p) (s : Same H H') : PotAt H' p := by
  obtain ⟨a, b, e, z⟩ := h
  exact ⟨a, b, s _ _ e, z⟩
theorem pot_upd {H : Hp} {p q : Addr} {o : HO} (h : PotAt H p) (n : H q = none) : PotAt (upd H q o) p := by
  obtain ⟨a, b, e, z⟩ := h
  exact ⟨a, b, by rw [upd_ne (ne_of_none e n)]; exact e, z⟩
theorem pot_ne {H : Hp} {p q : Addr} {o : HO} (h : PotAt H p) (n : q ≠ p) : PotAt (upd H q o) p := by
  obtain ⟨a, b, e, z⟩ := h
  exact ⟨a, b, by rw [upd_ne n.symm]; exact e, z⟩
theorem get_map {α β : Type} {f : α → β} {l : List α} {i : Nat} {x : β} (h : (l.map f)[i]? = some x) : ∃ a, l[i]? = some a ∧ x = f a := by
  rw [List.getElem?_map] at h
  cases e : l[i]? with
  | none => rw [e] at h; cases h
  | some a => rw [e] at h; exact ⟨a, rfl, (Option.some.inj h).symm⟩
theorem pt_in {gs : List Str} {i : Nat} {o : Option Str} (h : (gs.map some ++ [none])[i]? = some o) : ∀ x, o = some x → x ∈ gs := by
  intro x e
  subst e
  have m := List.mem_of_getElem? h
  rcases List.mem_append.mp m with m | m
  · obtain ⟨y, hy, e⟩ := List.mem_map.mp m
    cases e
    exact hy
  · simp at m
section
variable {P : Program} {w : World} {K : PySem.W.Frag} {mg : Str → Option Value} {base : Heap}
theorem scScene : FnScope ["_law_pot_here", "_law_most", "_law_goods", "_law_points", "_law_found", "_law_turn", "_law_one", "_law_other"] ["_law_pot_here", "_law_most"] (defScope sScene) :=
  ⟨rfl, rfl, rfl, by decide +kernel, rfl, by decide +kernel, by decide +kernel⟩
theorem ok_scene {f : Addr} {fd : FuncData} (F : Fun K "_law_scene" "_law_scene" sScene f fd) (T : Bi mg)
    (D : Has P w K mg base "_law_draw" 1 ["_law_pot_here", "_law_many"] spDraw) (I : Has P w K mg base "_law_pick" 2 ["_law_pot_here", "_law_some"] (spPick K)) :
    FnG P w K mg base CX0 3 f fd ["_law_pot_here", "_law_most"] spScene := by
  refine okG F scScene (fun vs H Q E h => ?_) (fun cdv A out s H vs Q E g hr h => ?_)
  · obtain ⟨p, m, rfl, _⟩ := h
    rfl
  · obtain ⟨p, m, rfl, hp, hm, q⟩ := h
    have hr1 : Room 1 _ := hr.mono (by decide)
    have hu := hr.units
    refine ⟨_, pss_cons (ps_set (i := 2) scScene.nd rfl (.inl rfl) (pe_has I g hr (by rfl) (pa_cons (pv 0) (pa_cons
          (pe_lstL (pa_cons (pe_lstL (pa_cons pe_str pa_nil)) (pa_cons (pe_lstL (pa_cons pe_str (pa_cons pe_str pa_nil))) (pa_cons (pe_lstL (pa_cons pe_str (pa_cons pe_str pa_nil)))
            (pa_cons (pe_lstL (pa_cons pe_str (pa_cons pe_str (pa_cons pe_str pa_nil)))) (pa_cons (pe_lstL (pa_cons pe_str (pa_cons pe_str (pa_cons pe_str (pa_cons pe_str pa_nil))))) pa_nil)))))) pa_nil))))
      (pss_cons (ps_par (i := 3) (j := 4) (by rfl) scScene.nd rfl rfl (by decide) rfl rfl
        (pa_cons (pe_op op_catL (pv 2) (pe_lstL (pa_cons pe_non pa_nil))) (pa_cons (pe_lstL pa_nil) pa_nil)) (by rfl))
      (pss_cons (ps_for PassesOwn.never rfl (pi_range1 (by rfl) T.range (pa_cons (pe_has D g hr1 (by rfl) (pa_cons (pv 0) (pa_cons (pe_op op_add (pv 1) pe_int) pa_nil))) pa_nil)) (pg_name (i := 5) scScene.nd rfl (.inl rfl))
        (pss_cons (ps_par (i := 6) (j := 7) (by rfl) scScene.nd rfl rfl (by decide) rfl rfl
          (pa_cons (pe_has I g hr (by rfl) (pa_cons (pv 0) (pa_cons (pv 3) pa_nil))) (pa_cons (pe_has I g hr (by rfl) (pa_cons (pv 0) (pa_cons (pv 3) pa_nil))) pa_nil)) (by rfl))
        (pss_one (ps_if (pt_cmpR (op_neD hu) (pv 6) (pv 7) (nomark _))
          (pss_one (ps_expr (pe_bm PySem.F.plainAttrs_list PySem.F.slot_list_append PySem.F.type_list_append mt_appL (pv 4) (pa_cons
            (pe_tupL (pa_cons (pv 6) (pa_cons (pv 7) (pa_cons (pe_has I g hr (by rfl) (pa_cons (pv 0) (pa_cons (pe_lstL (pa_cons pe_int (pa_cons pe_int (pa_cons pe_int (pa_cons pe_int (pa_cons pe_int
              (pa_cons (pe_un un_neg pe_int) (pa_cons (pe_un un_neg pe_int) (pa_cons (pe_has D g hr1 (by rfl) (pa_cons (pv 0) (pa_cons pe_int pa_nil))) pa_nil))))))))) pa_nil))) pa_nil)))) pa_nil)))) pss_nil))))
      (pss_one (ps_ret (pe_tupL (pa_cons (pv 2) (pa_cons (pv 4) pa_nil))))))), ?_⟩
    refine ⟨_, rfl, by show 1 ≤ sizeLine; decide, fun a1 H1 n1 e1 s1 => ⟨by show 2 ≤ sizeLine; decide, fun a2 H2 n2 e2 s2 => ⟨by show 2 ≤ sizeLine; decide, fun a3 H3 n3 e3 s3 =>
      ⟨by show 3 ≤ sizeLine; decide, fun a4 H4 n4 e4 s4 => ⟨by show 4 ≤ sizeLine; decide, fun a5 H5 n5 e5 s5 => ⟨by show 5 ≤ sizeLine; decide, fun a6 H6 n6 e6 s6 => ?_⟩⟩⟩⟩⟩⟩
    have t2 : Same H H2 := s1.trans s2
    have t3 : Same H H3 := t2.trans s3
    have t4 : Same H H4 := t3.trans s4
    have t5 : Same H H5 := t4.trans s5
    have t6 : Same H H6 := t5.trans s6
    have hp6 : PotAt H6 p := pot_same hp t6
    obtain ⟨x0, y0, hpp, _⟩ := id hp
    have np : ∀ {a : Addr}, H a = none → a ≠ p := fun h z => by rw [z, hpp] at h; cases h
    refine ⟨rfl, rfl, p, a6, _, rfl, hp6, SqL.of e6, np (t5.free n6), by show 0 < 5; decide, by show 5 < 1048576; decide, ?_⟩
    intro i x H7 hx hp7 b7
    have pickd : ∃ G gs, x = .ref G ∧ gs ∈ menu ∧ H7 G = some (.lst (gs.map V.str)) ∧ H G = none := by
      match i, hx with
      | 0, hx => cases hx; exact ⟨a1, ["x"], rfl, by decide, b7 _ _ (np n1) (s6 _ _ (s5 _ _ (s4 _ _ (s3 _ _ (s2 _ _ e1))))), n1⟩
      | 1, hx => cases hx; exact ⟨a2, ["x", "y"], rfl, by decide, b7 _ _ (np (s1.free n2)) (s6 _ _ (s5 _ _ (s4 _ _ (s3 _ _ e2)))), s1.free n2⟩
      | 2, hx => cases hx; exact ⟨a3, ["oil", "tea"], rfl, by decide, b7 _ _ (np (t2.free n3)) (s6 _ _ (s5 _ _ (s4 _ _ e3))), t2.free n3⟩
      | 3, hx => cases hx; exact ⟨a4, ["b", "oil", "tea"], rfl, by decide, b7 _ _ (np (t3.free n4)) (s6 _ _ (s5 _ _ e4)), t3.free n4⟩
      | 4, hx => cases hx; exact ⟨a5, ["a", "b", "c", "d"], rfl, by decide, b7 _ _ (np (t4.free n5)) (s6 _ _ e5), t4.free n5⟩
      | i + 5, hx => simp at hx
    obtain ⟨G, gs, rfl, hgs, eG, nG⟩ := pickd
    have c7 : But p H H7 := (But.of t6).trans b7
    have GG := menu_good gs hgs
    clear hx n1 n2 n3 n4 n5 n6 e1 e2 e3 e4 e5 e6 s1 s2 s3 s4 s5 s6 t2 t3 t4 t5 t6 hp6 b7
    -- points, found = (goods + [None], [])
    refine ⟨_, rfl, by show 1 ≤ sizeLine; decide, fun b1 J1 m1 f1 u1 => ⟨G, b1, gs.map V.str, [.non], rfl, rfl, u1 _ _ eG, f1, by rw [List.length_map]; have := GG.l2; show gs.length + 1 ≤ sizeLine; rw [sizeLine_eq]; omega,
      fun Pt J2 m2 f2 u2 => ⟨by show 0 ≤ sizeLine; decide, fun R J3 m3 f3 u3 => ⟨_, _, rfl, ?_⟩⟩⟩⟩
    have hp3 : PotAt J3 p := pot_same (pot_same (pot_same hp7 u1) u2) u3
    have v1 : Same H7 J3 := (u1.trans u2).trans u3
    have c3 : But p H J3 := c7.trans (But.of v1)
    obtain ⟨x7, y7, hpp7, _⟩ := id hp7
    have nR7 : H7 R = none := (u1.trans u2).free m3
    have nR : H R = none := back_but c7 nR7 (ne_some nR7 hpp7)
    have hGR : G ≠ R := ne_of_none eG nR7
    have hPR : Pt ≠ R := ne_of_none f2 m3
    have nP7 : H7 Pt = none := u1.free m2
    have hPp : Pt ≠ p := ne_some nP7 hpp7
    have hGp : G ≠ p := ne_some nG hpp
    have hRp : R ≠ p := ne_some nR hpp
    -- for turn in range(draw(pot, most + 1))
    refine ⟨_, rfl, _, rfl, _, _, rfl, rfl, rfl, rfl, p, _, rfl, hp3, by omega, by omega, fun d H8 d0 d1 hp8 b8 => ⟨d, rfl, by omega, by omega, ?_⟩⟩
    have pts : gs.map V.str ++ [V.non] = (gs.map some ++ [none]).map oV := by simp [oV]
    refine for_range (n := d.toNat) (fun i σ H' => ∃ (as : List Addr) (rs : List Row) (tv ov wv : Option V), σ = [some (.ref p), some (.int m), some (.ref G), some (.ref Pt), some (.ref R), tv, ov, wv] ∧
      H' G = some (.lst (gs.map V.str)) ∧ H' Pt = some (.lst ((gs.map some ++ [none]).map oV)) ∧ H' R = some (.lst (as.map V.ref)) ∧ RowsIn H' as rs ∧ GoodRows gs rs ∧ (∀ r ∈ rs, r.2.2.natAbs ≤ 9) ∧ rs.length ≤ i ∧ PotAt H' p ∧ But p H H') ?_ ?_ ?_
    · refine ⟨[], [], none, none, none, rfl, b8 _ _ hGp (v1 _ _ eG), ?_, b8 _ _ hRp f3, .nil, fun r h => (by cases h), fun r h => (by cases h), Nat.le_refl _, hp8, c3.trans b8⟩
      rw [← pts]
      exact b8 _ _ hPp (u3 _ _ f2)
    · rintro i σ H' hi ⟨as, rs, tv, ov, wv, rfl, kG, kP, kR, rows, good, low, len, pot, but⟩
      have lp : ((gs.map some ++ [none]).map oV).length = gs.length + 1 := by simp
      have l2 := GG.l2
      refine ⟨_, rfl, _, rfl, rfl, rfl, p, Pt, _, rfl, pot, SqL.of kP, hPp, by omega, by omega, fun i1 x1 H1 hx1 hp1 b1 => ?_⟩
      refine ⟨_, rfl, _, rfl, rfl, rfl, p, Pt, _, rfl, hp1, SqL.of (b1 _ _ hPp kP), hPp, by omega, by omega, fun i2 x2 H2 hx2 hp2 b2 => ⟨_, _, rfl, ?_⟩⟩
      obtain ⟨o1, q1, rfl⟩ := get_map hx1
      obtain ⟨o2, q2, rfl⟩ := get_map hx2
      have w1 := pt_in q1
      have w2 := pt_in q2
      have b12 := b1.trans b2
      obtain ⟨z0, z1, hpp0, _⟩ := id pot
      have rows2 : RowsIn H2 as rs := rows_but rows b12 hpp0
      have kG2 := b12 _ _ hGp kG
      have kP2 := b12 _ _ hPp kP
      have kR2 := b12 _ _ hRp kR
      refine ⟨_, rfl, _, rfl, oD o1, oD o2, dp_o _, dp_o _, shaped_o GG _ w1, shaped_o GG _ w2, _, rfl, ?_⟩
      rw [eqv_o]
      refine ite2 (fun c => ?_) (fun c => ?_)
      · have hne : o1 ≠ o2 := by simpa using c
        refine ⟨_, rfl, .inl ⟨rfl, _, SqL.of kR2⟩, _, rfl, _, rfl, _, rfl, _, rfl, _, rfl, _, rfl, rfl, rfl, p, _, rfl, hp2, by decide, by decide, fun d4 H4 e0 e1 hp4 b4 => ?_⟩
        refine ⟨by show 8 ≤ sizeLine; decide, fun L H5 nL eL sL => ⟨rfl, rfl, p, L, _, rfl, pot_same hp4 sL, SqL.of eL, ?_, by show 0 < 8; decide, by show 8 < 1048576; decide, fun i6 x6 H6 hx6 hp6 b6 => ?_⟩⟩
        · obtain ⟨_, _, hq, _⟩ := id hp4
          exact ne_some nL hq
        · have pk : ∃ k : Int, x6 = .int k ∧ k.natAbs ≤ 9 := by
            match i6, hx6 with
            | 0, hx => cases hx; exact ⟨0, rfl, by decide⟩
            | 1, hx => cases hx; exact ⟨1, rfl, by decide⟩
            | 2, hx => cases hx; exact ⟨2, rfl, by decide⟩
            | 3, hx => cases hx; exact ⟨3, rfl, by decide⟩
            | 4, hx => cases hx; exact ⟨5, rfl, by decide⟩
            | 5, hx => cases hx; exact ⟨-1, rfl, by decide⟩
            | 6, hx => cases hx; exact ⟨-2, rfl, by decide⟩
            | 7, hx => cases hx; exact ⟨d4, rfl, by omega⟩
            | i + 8, hx => simp at hx
          obtain ⟨k6, rfl, hk⟩ := pk
          have b46 : But p H2 H6 := (b4.trans (But.of sL)).trans b6
          refine ⟨by show 3 ≤ sizeLine; decide, fun t H7 nt et st => ?_⟩
          have b27 : But p H2 H7 := b46.trans (But.of st)
          obtain ⟨z2, z3, hpp2, _⟩ := id hp2
          have rows7 := rows_but rows2 b27 hpp2
          have kR7 := b27 _ _ hRp kR2
          have tR : t ≠ R := ne_of et kR7 (by intro q; cases q)
          have lenA : as.length = rs.length := Paired.length rows
          refine ⟨R, as.map V.ref, .ref t, rfl, rfl, kR7, by rw [List.length_map]; exact small1000 (by simp at hi; omega), fun H8' e8 c8 => ?_⟩
          have b28 : ∀ a o, a ≠ p → a ≠ R → H2 a = some o → H8' a = some o := fun a o n1 n2 e => c8 _ _ n2 (b27 _ _ n1 e)
          refine ⟨as ++ [t], rs ++ [(o1, o2, k6)], _, _, _, rfl, b28 _ _ hGp hGR kG2, b28 _ _ hPp hPR kP2, by rw [e8]; simp, ?_, ?_, ?_, by simp; omega, ?_, ?_⟩
          · exact Paired.snoc (rows_keep rows7 fun u xs e => c8 _ _ (ne_of e kR7 (by intro q; cases q)) e) (c8 _ _ tR et)
          · intro r hr
            rcases List.mem_append.mp hr with hr | hr
            · exact good r hr
            · rw [List.mem_singleton.mp hr]
              exact ⟨hne, w1, w2, by show k6.natAbs ≤ 1000000000000000000000000000000; omega⟩
          · intro r hr
            rcases List.mem_append.mp hr with hr | hr
            · exact low r hr
            · rw [List.mem_singleton.mp hr]
              exact hk
          · obtain ⟨a, b, e, z⟩ := pot_same hp6 st
            exact ⟨a, b, c8 _ _ hRp.symm e, z⟩
          · intro a o ha e
            have z := b27 _ _ ha (b12 _ _ ha (but _ _ ha e))
            exact c8 _ _ (ne_of_none e nR) z
      · exact ⟨as, rs, _, _, _, rfl, kG2, kP2, kR2, rows2, good, low, by omega, hp2, but.trans b12⟩
    · rintro σ H' ⟨as, rs, tv, ov, wv, rfl, kG, kP, kR, rows, good, low, len, pot, but⟩
      refine ⟨_, rfl, _, rfl, by show 2 ≤ sizeLine; decide, fun t H9 n9 e9 s9 => ?_⟩
      obtain ⟨x8, y8, hpp8, _⟩ := id pot
      exact q gs rs G R t as H9 hgs good low (by omega) (back_but but n9 (ne_some n9 hpp8)) nG nR hGR e9 (s9 _ _ kG) (s9 _ _ kR) (rows_same rows s9) (pot_same pot s9) (but.trans (But.of s9))
end
end KM

set_option Elab.async false
set_option linter.all false
namespace KM
open PySem PySem.Spec PyProof.Rows L2 GL
abbrev leS (a b : Str) : Prop := a.cps.toList ≤ b.cps.toList
theorem leS_of {a b : Str} (h : ltCps b.cps.toList a.cps.toList = false) : leS a b := by
  rw [ltCps_eq] at h
  exact List.not_lt.mp (of_decide_eq_false h)
theorem rising_pair : ∀ (p : Str) (l : List Str), risingS p l = true → (p :: l).Pairwise leS
  | p, [], _ => List.pairwise_singleton _ _
  | p, x :: r, h => by
    have h' : (!ltCps x.cps.toList p.cps.toList && risingS x r) = true := h
    rw [Bool.and_eq_true, Bool.not_eq_true'] at h'
    have ih := rising_pair x r h'.2
    have l1 : leS p x := leS_of h'.1
    refine List.pairwise_cons.mpr ⟨fun y hy => ?_, ih⟩
    rcases List.mem_cons.mp hy with e | hy
    · rw [e]; exact l1
    · exact List.le_trans l1 ((List.pairwise_cons.mp ih).1 y hy)
theorem sorted_pair : ∀ l : List Str, sortedS l = true → l.Pairwise leS
  | [], _ => .nil
  | x :: r, h => rising_pair x r h
theorem cps_inj {a b : Str} (h : a.cps.toList = b.cps.toList) : a = b := by
  obtain ⟨x⟩ := a
  obtain ⟨y⟩ := b
  have : x = y := by
    have e := congrArg List.toArray h
    simpa using e
  rw [this]
/-- there is one sorted list of the same texts -/
theorem sorted_one {l m : List Str} (p : l.Perm m) (hl : sortedS l = true) (hm : sortedS m = true) : l = m :=
  List.Perm.eq_of_pairwise (fun a b _ _ h1 h2 => cps_inj (List.le_antisymm h1 h2)) (sorted_pair l hl) (sorted_pair m hm) p
end KM

set_option Elab.async false
set_option linter.all false
set_option maxRecDepth 100000
set_option maxHeartbeats 4000000
namespace KM
open PySem PySem.Spec PyProof.Rows L2 GL

/-! ### Moves as they stand, and what their methods promise -/
/-- the attributes, as __init__ stores them -/
def flds (g c : Addr) : List (Str × V) := putF "_conditions" (.ref c) (putF "_goods" (.ref g) [])
/-- Moves of the sorted goods gs and the conditions rs stand at m -/
def MovesAt (C : Addr) (H : Hp) (m : Addr) (gs : List Str) (rs : List Row) : Prop :=
  ∃ dx g c as, H m = some (.ins C dx (flds g c)) ∧ H g = some (.lst (gs.map V.str)) ∧ H c = some (.lst (as.map V.ref)) ∧ RowsIn H as rs
/-- what is good: goods of the names, sorted; conditions on them; not too many -/
structure Fit (gs : List Str) (rs : List Row) : Prop where
  g : GoodGs gs
  s : sortedS gs = true
  r : GoodRows gs rs
  n : rs.length ≤ 24
theorem MovesAt.same {C : Addr} {H H' : Hp} {m : Addr} {gs : List Str} {rs : List Row} (h : MovesAt C H m gs rs) (s : Same H H') : MovesAt C H' m gs rs := by
  obtain ⟨dx, g, c, as, e1, e2, e3, e4⟩ := h
  exact ⟨dx, g, c, as, s _ _ e1, s _ _ e2, s _ _ e3, rows_same e4 s⟩
theorem MovesAt.but {C : Addr} {H H' : Hp} {m p : Addr} {gs : List Str} {rs : List Row} (h : MovesAt C H m gs rs) (hp : PotAt H p) (b : But p H H') : MovesAt C H' m gs rs := by
  obtain ⟨dx, g, c, as, e1, e2, e3, e4⟩ := h
  obtain ⟨x, y, e, _⟩ := hp
  refine ⟨dx, g, c, as, b _ _ (ne_of e1 e (by intro q; cases q)) e1, b _ _ (ne_of e2 e ?_) e2, b _ _ (ne_of e3 e ?_) e3, rows_but e4 b e⟩
  · intro q
    cases gs with
    | nil => cases q
    | cons a r => cases q
  · intro q
    cases as with
    | nil => cases q
    | cons a r => cases q
theorem MovesAt.ins {C : Addr} {H : Hp} {m : Addr} {gs : List Str} {rs : List Row} (h : MovesAt C H m gs rs) : ∃ dx fs, H m = some (.ins C dx fs) ∧
    ∀ nm : Str, ¬ nm = "_conditions" → ¬ nm = "_goods" → fs.lookup nm = none := by
  obtain ⟨dx, g, c, as, e1, _⟩ := h
  refine ⟨dx, _, e1, fun nm h1 h2 => ?_⟩
  unfold flds
  rw [lookup_putF, if_neg h1, lookup_putF, if_neg h2]
  rfl

/-- new Moves: their lists are new as well -/
def MovesNew (C : Addr) (H H' : Hp) (m : Addr) (gs : List Str) (rs : List Row) : Prop :=
  ∃ dx g c as, H' m = some (.ins C dx (flds g c)) ∧ H' g = some (.lst (gs.map V.str)) ∧ H' c = some (.lst (as.map V.ref)) ∧ RowsIn H' as rs ∧ H g = none ∧ H c = none
theorem MovesNew.at {C : Addr} {H H' : Hp} {m : Addr} {gs : List Str} {rs : List Row} (h : MovesNew C H H' m gs rs) : MovesAt C H' m gs rs := by
  obtain ⟨dx, g, c, as, e1, e2, e3, e4, _⟩ := h
  exact ⟨dx, g, c, as, e1, e2, e3, e4⟩
/-- a list that stood ahead of them is changed -/
theorem MovesNew.put {C : Addr} {H H1 H2 : Hp} {m p : Addr} {zs ys : List V} {gs : List Str} {rs : List Row} (h : MovesNew C H H1 m gs rs) (e : H p = some (.lst zs)) (e' : H1 p = some (.lst ys)) (b : But p H1 H2) :
    MovesNew C H H2 m gs rs := by
  obtain ⟨dx, g, c, as, e1, e2, e3, e4, n1, n2⟩ := h
  exact ⟨dx, g, c, as, b _ _ (ne_of e1 e' (by intro q; cases q)) e1, b _ _ (ne_some n1 e) e2, b _ _ (ne_some n2 e) e3, rows_but e4 b e', n1, n2⟩
/-- Moves whose lists are not E -/
def MovesOff (C E : Addr) (H : Hp) (m : Addr) (gs : List Str) (rs : List Row) : Prop :=
  ∃ dx g c as, H m = some (.ins C dx (flds g c)) ∧ H g = some (.lst (gs.map V.str)) ∧ H c = some (.lst (as.map V.ref)) ∧ RowsIn H as rs ∧ g ≠ E ∧ c ≠ E
theorem MovesOff.at {C E : Addr} {H : Hp} {m : Addr} {gs : List Str} {rs : List Row} (h : MovesOff C E H m gs rs) : MovesAt C H m gs rs := by
  obtain ⟨dx, g, c, as, e1, e2, e3, e4, _⟩ := h
  exact ⟨dx, g, c, as, e1, e2, e3, e4⟩
theorem MovesOff.same {C E : Addr} {H H' : Hp} {m : Addr} {gs : List Str} {rs : List Row} (h : MovesOff C E H m gs rs) (s : Same H H') : MovesOff C E H' m gs rs := by
  obtain ⟨dx, g, c, as, e1, e2, e3, e4, n⟩ := h
  exact ⟨dx, g, c, as, s _ _ e1, s _ _ e2, s _ _ e3, rows_same e4 s, n⟩
theorem MovesOff.but {C E : Addr} {H H' : Hp} {m p : Addr} {gs : List Str} {rs : List Row} (h : MovesOff C E H m gs rs) (hp : PotAt H p) (b : But p H H') : MovesOff C E H' m gs rs := by
  obtain ⟨dx, g, c, as, e1, e2, e3, e4, n⟩ := h
  obtain ⟨x, y, e, _⟩ := hp
  refine ⟨dx, g, c, as, b _ _ (ne_of e1 e (by intro q; cases q)) e1, b _ _ (ne_of e2 e ?_) e2, b _ _ (ne_of e3 e ?_) e3, rows_but e4 b e, n⟩
  · intro q
    cases gs with
    | nil => cases q
    | cons a r => cases q
  · intro q
    cases as with
    | nil => cases q
    | cons a r => cases q
theorem MovesOff.put {C E : Addr} {H H' : Hp} {m : Addr} {zs : List V} {gs : List Str} {rs : List Row} (h : MovesOff C E H m gs rs) (e : H E = some (.lst zs)) (b : But E H H') : MovesOff C E H' m gs rs := by
  obtain ⟨dx, g, c, as, e1, e2, e3, e4, n1, n2⟩ := h
  exact ⟨dx, g, c, as, b _ _ (ne_of e1 e (by intro q; cases q)) e1, b _ _ n1 e2, b _ _ n2 e3, rows_but e4 b e, n1, n2⟩
theorem MovesNew.off {C E : Addr} {H H' : Hp} {m : Addr} {o : HO} {gs : List Str} {rs : List Row} (h : MovesNew C H H' m gs rs) (e : H E = some o) : MovesOff C E H' m gs rs := by
  obtain ⟨dx, g, c, as, e1, e2, e3, e4, n1, n2⟩ := h
  exact ⟨dx, g, c, as, e1, e2, e3, e4, ne_some n1 e, ne_some n2 e⟩
theorem MovesAt.off {C E : Addr} {H : Hp} {m : Addr} {gs : List Str} {rs : List Row} (h : MovesAt C H m gs rs) (n : H E = none) : MovesOff C E H m gs rs := by
  obtain ⟨dx, g, c, as, e1, e2, e3, e4⟩ := h
  exact ⟨dx, g, c, as, e1, e2, e3, e4, (ne_some n e2).symm, (ne_some n e3).symm⟩
def spGoods (C : Addr) : Sp := fun vs H Q _ => ∃ m gs rs, vs = [.ref m] ∧ MovesAt C H m gs rs ∧ NewK H (.lst (gs.map V.str)) Q
def spConds (C : Addr) : Sp := fun vs H Q _ => ∃ m gs rs, vs = [.ref m] ∧ MovesAt C H m gs rs ∧
  ∀ (L : Addr) (as : List Addr) (H' : Hp), H L = none → H' L = some (.lst (as.map V.ref)) → RowsIn H' as rs → Same H H' → Q (.ref L) H'
def spLen (C : Addr) : Sp := fun vs H Q _ => ∃ m gs rs, vs = [.ref m] ∧ MovesAt C H m gs rs ∧ ∀ H', Same H H' → Q (.int rs.length) H'
def reprM (gs : List Str) (rs : List Row) : Str := ("Moves(" : Str) ++ (gsD gs).shown ++ (", " : Str) ++ (rowsD rs).shown ++ (")" : Str)
def spRepr (C : Addr) : Sp := fun vs H Q _ => ∃ m gs rs, vs = [.ref m] ∧ MovesAt C H m gs rs ∧ Fit gs rs ∧ ∀ H', Same H H' → Q (.str (reprM gs rs)) H'
/-- no Moves: a list, a tuple, None, a number, a text -/
def NoMoves (K : PySem.W.Frag) (H : Hp) (y : V) : Prop := (∃ a xs, y = .ref a ∧ (H a = some (.lst xs) ∨ H a = some (.tup xs))) ∨ y = .non ∨ (∃ i, y = .int i) ∨ (∃ z, y = .str z)
def spEq (K : PySem.W.Frag) (C : Addr) : Sp := fun vs H Q _ => ∃ m gs rs y, vs = [.ref m, y] ∧ MovesAt C H m gs rs ∧ Fit gs rs ∧
  ((∃ m2 gs2 rs2, y = .ref m2 ∧ MovesAt C H m2 gs2 rs2 ∧ Fit gs2 rs2 ∧ ∀ H', Same H H' → Q (.bl (decide (gs = gs2 ∧ rs = rs2))) H') ∨
    (NoMoves K H y ∧ ∀ H', Same H H' → Q (.bl false) H'))
def spAdd (C : Addr) : Sp := fun vs H Q _ => ∃ m t gs rs r, vs = [.ref m, .ref t] ∧ MovesAt C H m gs rs ∧ Fit gs rs ∧ RowAt H t r ∧ GoodRow gs r ∧ rs.length < 24 ∧
  ∀ x H', H x = none → Same H H' → MovesNew C H H' x gs (rs ++ [r]) → Q (.ref x) H'
def spWithout (C : Addr) : Sp := fun vs H Q _ => ∃ m gs rs, ∃ i : Nat, vs = [.ref m, .int i] ∧ MovesAt C H m gs rs ∧ Fit gs rs ∧ i < rs.length ∧
  ∀ x H', H x = none → Same H H' → MovesNew C H H' x gs (rs.take i ++ rs.drop (i + 1)) → Q (.ref x) H'
def less1 (r : Row) : Row := (r.1, r.2.1, r.2.2 - 1)
def spTight (C : Addr) : Sp := fun vs H Q _ => ∃ m gs rs r, ∃ i : Nat, vs = [.ref m, .int i] ∧ MovesAt C H m gs rs ∧ Fit gs rs ∧ rs[i]? = some r ∧ r.2.2.natAbs < 100 ∧
  ∀ x H', H x = none → Same H H' → MovesNew C H H' x gs (rs.take i ++ [less1 r] ++ rs.drop (i + 1)) → Q (.ref x) H'
/-- Moves(goods, conditions): the goods in any sequence -/
def spInit (K : PySem.W.Frag) (C : Addr) : Sp := fun vs H Q _ => ∃ x dx G D gs as rs, vs = [.ref x, .ref G, .ref D] ∧ H x = some (.ins C dx []) ∧
  (SqL K H G (gs.map V.str) ∨ SqT K H G (gs.map V.str)) ∧ (SqL K H D (as.map V.ref) ∨ SqT K H D (as.map V.ref)) ∧ RowsIn H as rs ∧ GoodGs gs ∧ GoodRows gs rs ∧ rs.length ≤ 24 ∧
  ∀ hs H', hs.Perm gs → sortedS hs = true → MovesNew C H H' x hs rs → (∀ a o, a ≠ x → H a = some o → H' a = some o) → Q .non H'

/-- what the other texts need of the class -/
structure Mv (P : Program) (w : World) (K : PySem.W.Frag) (mg : Str → Option Value) (base : Heap) (C : Addr) : Prop where
  gM : mg "Moves" = some (.ref C)
  cl : Cls K C
  mk2 : HasC P w K mg base C 6 ["self", "goods", "conditions"] (spInit K C) 2 [] (fun vs _ => vs)
  goods : HasM P w K mg base C "goods" 1 ["self"] (spGoods C)
  conds : HasM P w K mg base C "conditions" 1 ["self"] (spConds C)
  repr : HasM P w K mg base C "__repr__" 1 ["self"] (spRepr C)
  eq : HasM P w K mg base C "__eq__" 1 ["self", "other"] (spEq K C)
  below : Below K C
  eqc : ∃ f N, EqC K C f N ∧ PySem.W.findIn K (.ref C) "__eq__" = some (some (.ref f))
end KM

set_option Elab.async false
set_option linter.all false
set_option maxRecDepth 100000
set_option maxHeartbeats 4000000
namespace KM
open PySem PySem.Spec PyProof.Rows L2 GL
/-! ### == of rows -/
theorem eqv_row (r s : Row) : PyData.eqv (rowD r) (rowD s) = decide (r = s) := by
  obtain ⟨a, b, i⟩ := r
  obtain ⟨c, d, j⟩ := s
  show (PyData.eqv (oD a) (oD c) && (PyData.eqv (oD b) (oD d) && ((i == j) && true))) = _
  rw [eqv_o, eqv_o, Bool.eq_iff_iff]
  simp [and_assoc]
theorem eqv_rowsAll : ∀ rs ss : List Row, PyData.eqvAll (rs.map rowD) (ss.map rowD) = decide (rs = ss)
  | [], [] => rfl
  | [], _ :: _ => rfl
  | _ :: _, [] => rfl
  | r :: rs, s :: ss => by
    show (PyData.eqv (rowD r) (rowD s) && PyData.eqvAll (rs.map rowD) (ss.map rowD)) = _
    rw [eqv_row, eqv_rowsAll rs ss, Bool.eq_iff_iff]
    simp
theorem eqv_rows (rs ss : List Row) : PyData.eqv (rowsD rs) (rowsD ss) = decide (rs = ss) := eqv_rowsAll rs ss
theorem eqv_strsAll : ∀ gs hs : List Str, PyData.eqvAll (gs.map PyData.str) (hs.map PyData.str) = decide (gs = hs)
  | [], [] => rfl
  | [], _ :: _ => rfl
  | _ :: _, [] => rfl
  | r :: rs, s :: ss => by
    show ((r == s) && PyData.eqvAll (rs.map PyData.str) (ss.map PyData.str)) = _
    rw [eqv_strsAll rs ss, Bool.eq_iff_iff]
    simp
theorem eqv_gs (gs hs : List Str) : PyData.eqv (gsD gs) (gsD hs) = decide (gs = hs) := eqv_strsAll gs hs
theorem eqv_blsAll : ∀ l : List Bool, PyData.eqvAll (l.map PyData.bool) (l.map PyData.bool) = true
  | [] => rfl
  | b :: l => by
    show ((b == b) && PyData.eqvAll (l.map PyData.bool) (l.map PyData.bool)) = true
    rw [eqv_blsAll l]
    simp
theorem dp_bls {K : PySem.W.Frag} {H : Hp} : ∀ l : List Bool, DpAll K H (l.map V.bl) (l.map PyData.bool)
  | [] => .nil
  | b :: l => .cons (.bl b) (dp_bls l)
theorem layAll_map {α : Type} (f : α → PyData) : ∀ l : List α, (∀ a ∈ l, (f a).canLay0 = true) → PyData.canLayAll0 (l.map f) = true
  | [], _ => rfl
  | a :: l, h => by
    show ((f a).canLay0 && PyData.canLayAll0 (l.map f)) = true
    rw [h a List.mem_cons_self, layAll_map f l fun b hb => h b (List.mem_cons_of_mem _ hb)]
    rfl
theorem shaped_of {d : PyData} (l : d.canLay0 = true) (h : d.depth ≤ 64) : SeqAt.shaped d = true := by
  show (d.canLay0 && decide (d.depth ≤ 64)) = true
  rw [l, decide_eq_true h]
  rfl
theorem shaped_bls (l : List Bool) : SeqAt.shaped (.list (l.map PyData.bool)) = true :=
  shaped_of (layAll_map PyData.bool l fun b _ => by cases b <;> rfl) (by
    show PyData.depthAll (l.map PyData.bool) + 1 ≤ 64
    have := depthAll_map PyData.bool 0 l fun b _ => Nat.le_refl _
    omega)
theorem lay_row {gs : List Str} (G : GoodGs gs) {r : Row} (h : GoodRow gs r) : (rowD r).canLay0 = true := by
  show ((oD r.1).canLay0 && ((oD r.2.1).canLay0 && ((PyData.int r.2.2).canLay0 && true))) = true
  rw [lay_o G _ h.one, lay_o G _ h.two]
  rfl
theorem shaped_rows {gs : List Str} (G : GoodGs gs) {rs : List Row} (h : GoodRows gs rs) : SeqAt.shaped (rowsD rs) = true :=
  shaped_of (layAll_map rowD rs fun r hr => lay_row G (h r hr)) (by have := (sh_rows G h).low; omega)
theorem shaped_gs {gs : List Str} (G : GoodGs gs) : SeqAt.shaped (gsD gs) = true :=
  shaped_of (layAll_map PyData.str gs fun x hx => lay_name x (G.sub x hx)) (by have := (sh_gs G).low; omega)
/-! ### rows by parts -/
theorem rows_app {H : Hp} : ∀ {as bs : List Addr} {rs ss : List Row}, RowsIn H as rs → RowsIn H bs ss → RowsIn H (as ++ bs) (rs ++ ss)
  | _, _, _, _, .nil, h => h
  | _, _, _, _, .cons a t, h => .cons a (rows_app t h)
theorem rows_take {H : Hp} : ∀ {as : List Addr} {rs : List Row} (n : Nat), RowsIn H as rs → RowsIn H (as.take n) (rs.take n)
  | _, _, 0, _ => by simp only [List.take_zero]; exact .nil
  | _, _, _ + 1, .nil => .nil
  | _, _, n + 1, .cons a t => .cons a (rows_take n t)
theorem rows_drop {H : Hp} : ∀ {as : List Addr} {rs : List Row} (n : Nat), RowsIn H as rs → RowsIn H (as.drop n) (rs.drop n)
  | _, _, 0, h => h
  | _, _, _ + 1, .nil => .nil
  | _, _, n + 1, .cons _ t => rows_drop n t
theorem rows_rev {H : Hp} : ∀ {as : List Addr} {rs : List Row}, RowsIn H as rs → RowsIn H as.reverse rs.reverse
  | _, _, .nil => .nil
  | _, _, .cons a t => by
    rw [List.reverse_cons, List.reverse_cons]
    exact rows_app (rows_rev t) (.cons a .nil)
theorem rows_at {H : Hp} : ∀ {as : List Addr} {rs : List Row} {i : Nat} {x : V}, RowsIn H as rs → (as.map V.ref)[i]? = some x → ∃ t r, x = .ref t ∧ rs[i]? = some r ∧ RowAt H t r
  | _, _, i, x, .nil, e => by simp at e
  | _, _, 0, x, .cons (a := a) (b := b) h _, e => by
    have e' : V.ref a = x := by simpa using e
    exact ⟨a, b, e'.symm, rfl, h⟩
  | _, _, i + 1, x, .cons _ t, e => by
    obtain ⟨u, r, a, b, c⟩ := rows_at (i := i) (x := x) t (by simpa using e)
    exact ⟨u, r, a, by simpa using b, c⟩
end KM

set_option Elab.async false
set_option linter.all false
set_option maxRecDepth 100000
set_option maxHeartbeats 4000000
namespace KM
open PySem PySem.Spec PyProof.Rows L2 GL
section
variable {K : PySem.W.Frag} {C : Addr} {Hc : Hp} {m x : Addr} {gs gs2 : List Str} {rs rs2 : List Row} {Q : VK}
theorem q_eq (hm : MovesAt C Hc m gs rs) (fm : Fit gs rs) (hx : MovesAt C Hc x gs2 rs2) (fx : Fit gs2 rs2) (h : ∀ H', Same Hc H' → Q (.bl (decide (gs = gs2 ∧ rs = rs2))) H') :
    rEqO K C (spEq K C) E0 (.ref m) (.ref x) Hc Q := by
  obtain ⟨dx, fs, em, _⟩ := hm.ins
  obtain ⟨dy, fy, ex, _⟩ := hx.ins
  exact ⟨m, dx, fs, rfl, em, .inl ⟨x, dy, fy, rfl, ex⟩, m, gs, rs, .ref x, rfl, hm, fm, .inl ⟨x, gs2, rs2, rfl, hx, fx, fun H' s => ⟨_, rfl, h H' s⟩⟩⟩
theorem q_ne (hm : MovesAt C Hc m gs rs) (fm : Fit gs rs) (hx : MovesAt C Hc x gs2 rs2) (fx : Fit gs2 rs2) (h : ∀ H', Same Hc H' → Q (.bl (!decide (gs = gs2 ∧ rs = rs2))) H') :
    rNeO C (spEq K C) E0 (.ref m) (.ref x) Hc Q := by
  obtain ⟨dx, fs, em, _⟩ := hm.ins
  obtain ⟨dy, fy, ex, _⟩ := hx.ins
  exact ⟨m, dx, fs, x, dy, fy, rfl, rfl, em, ex, m, gs, rs, .ref x, rfl, hm, fm, .inl ⟨x, gs2, rs2, rfl, hx, fx, fun H' s => ⟨_, rfl, h H' s⟩⟩⟩
theorem q_eq0 {y : V} (hm : MovesAt C Hc m gs rs) (fm : Fit gs rs) (hy : NoMoves K Hc y) (h : ∀ H', Same Hc H' → Q (.bl false) H') : rEqO K C (spEq K C) E0 (.ref m) y Hc Q := by
  obtain ⟨dx, fs, em, _⟩ := hm.ins
  refine ⟨m, dx, fs, rfl, em, ?_, m, gs, rs, y, rfl, hm, fm, .inr ⟨hy, fun H' s => ⟨_, rfl, h H' s⟩⟩⟩
  rcases hy with ⟨a, xs, rfl, e | e⟩ | e | e | e
  · exact .inr (.inl ⟨a, xs, rfl, .inl (SqL.of e)⟩)
  · exact .inr (.inl ⟨a, xs, rfl, .inr (SqT.of e)⟩)
  · exact .inr (.inr (.inl e))
  · exact .inr (.inr (.inr (.inl e)))
  · exact .inr (.inr (.inr (.inr e)))
/-- what stands behind Moves(G, D) -/
theorem q_new {W : Addr → Hp → Prop} {G D : Addr} {as : List Addr} (g : SqL K Hc G (gs.map V.str) ∨ SqT K Hc G (gs.map V.str)) (d : SqL K Hc D (as.map V.ref) ∨ SqT K Hc D (as.map V.ref)) (rw' : RowsIn Hc as rs)
    (G0 : GoodGs gs) (R0 : GoodRows gs rs) (len : rs.length ≤ 24)
    (h : ∀ x hs H', Hc x = none → hs.Perm gs → Fit hs rs → MovesNew C Hc H' x hs rs → Same Hc H' → W x H') :
    ∀ x dx, Hc x = none → Hc dx = none → dx ≠ x → spInit K C [.ref x, .ref G, .ref D] (upd (upd Hc dx (.own x)) x (.ins C dx [])) (fun v H3 => v = .non ∧ W x H3) E0 := by
  intro x dx nx ndx nex
  have k : Same Hc (upd (upd Hc dx (.own x)) x (.ins C dx [])) := fun a o e => by rw [upd_ne (ne_of_none e nx), upd_ne (ne_of_none e ndx)]; exact e
  refine ⟨x, dx, G, D, gs, as, rs, rfl, upd_same, g.imp k.seq (same_tup k), d.imp k.seq (same_tup k), rows_same rw' k, G0, R0, len, fun hs H' p s mn kp => ⟨rfl, ?_⟩⟩
  obtain ⟨dz, a, b, bs, e1, e2, e3, e4, n1, n2⟩ := mn
  refine h x hs H' nx p ⟨G0.perm p, s, fun r hr => (R0 r hr).of_sub fun y hy => (p.mem_iff).mpr hy, len⟩ ⟨dz, a, b, bs, e1, e2, e3, e4, k.free n1, k.free n2⟩ fun a o e => kp _ _ (ne_of_none e nx) (k _ _ e)
end
theorem perm_strs {ys : List V} {l : List Str} (h : ys.Perm (l.map V.str)) : ∃ hs : List Str, hs.Perm l ∧ ys = hs.map V.str := by
  let un : V → Str := fun v => match v with
    | .str x => x
    | _ => ""
  refine ⟨ys.map un, ?_, ?_⟩
  · have z := h.map un
    rw [List.map_map] at z
    have e : (un ∘ V.str) = id := by funext x; rfl
    rw [e, List.map_id] at z
    exact z
  · rw [List.map_map]
    have : ∀ v ∈ ys, (V.str ∘ un) v = v := fun v hv => by
      obtain ⟨x, _, rfl⟩ := List.mem_map.mp (h.mem_iff.mp hv)
      rfl
    exact (List.map_id ys).symm.trans (List.map_congr_left fun v hv => (this v hv).symm)
theorem take_more {α : Type} : ∀ {l : List α} {i : Nat} {x : α}, l[i]? = some x → l.take (i + 1) = l.take i ++ [x]
  | [], i, x, h => by simp at h
  | a :: l, 0, x, h => by
    have e : a = x := by simpa using h
    rw [e]; rfl
  | a :: l, i + 1, x, h => by
    have ih := take_more (l := l) (i := i) (x := x) (by simpa using h)
    simp only [List.take_succ_cons, List.cons_append]
    rw [ih]
theorem atI0 {α : List V} {x : V} : atI (x :: α) 0 = some x := by
  unfold atI ixN
  rw [if_pos (Int.le_refl _), if_pos (by rw [List.length_cons]; omega)]
  rfl
theorem fit_one {gs hs : List Str} {rs ss : List Row} (a : Fit gs rs) (b : Fit hs ss) (p : hs.Perm gs) : hs = gs := sorted_one p b.s a.s
end KM

set_option Elab.async false
set_option linter.all false
set_option maxRecDepth 100000
set_option maxHeartbeats 4000000
namespace KM
open PySem PySem.Spec PyProof.Rows L2 GL
theorem yes_go {σ : L2.St} {H : Hp} {A B : Hp → Prop} (h : A H) : tYes σ H fun b H3 => if b = true then A H3 else B H3 := by
  show (if true = true then A H else B H)
  exact iteT h
theorem dec_sym {α β : Type} [DecidableEq α] [DecidableEq β] (a b : α) (c d : β) : decide (a = b ∧ c = d) = decide (b = a ∧ d = c) :=
  decide_eq_decide.mpr ⟨fun h => ⟨h.1.symm, h.2.symm⟩, fun h => ⟨h.1.symm, h.2.symm⟩⟩
theorem cut_take {xs : List V} {i : Nat} (h : i ≤ xs.length) : cutV xs none (some (i : Int)) = xs.take i := by
  unfold cutV
  have e0 : HT.sIx xs.length 0 none = 0 := rfl
  have e1 : HT.sIx xs.length xs.length (some (i : Int)) = i := by rw [HT.sIx_nat]; omega
  rw [e0, e1]
  simp
theorem cut_drop {xs : List V} {i : Nat} (h : i ≤ xs.length) : cutV xs (some (i : Int)) none = xs.drop i := by
  unfold cutV
  have e0 : HT.sIx xs.length xs.length none = xs.length := rfl
  have e1 : HT.sIx xs.length 0 (some (i : Int)) = i := by rw [HT.sIx_nat]; omega
  rw [e0, e1]
  rw [List.take_of_length_le]
  rw [List.length_drop]
  omega
theorem r_patch {K : PySem.W.Frag} {tt : TE} {σ : L2.St} {ri ai : Nat} {Hc : Hp} {R : Addr} {i : Nat} {as : List Addr} {rs : List Row} {r : Row} {Q : VK} (hR : σ[ri]? = some (some (.ref R))) (hA : σ[ai]? = some (some (.int (i : Nat))))
    (eR : Hc R = some (.lst (as.map V.ref))) (rows : RowsIn Hc as rs) (hi : i < rs.length) (len : rs.length ≤ 1000)
    (ht : ∀ H1 Q', Same Hc H1 → (∀ t H2, Same H1 H2 → RowAt H2 t r → Q' (.ref t) H2) → tt σ H1 Q')
    (h : ∀ L bs H', Hc L = none → H' L = some (.lst (bs.map V.ref)) → RowsIn H' bs (rs.take i ++ [r] ++ rs.drop (i + 1)) → Same Hc H' → Q (.ref L) H') :
    tOp rCatL (tOp rCatL (tSl (rSlcL K) (tVar ri) tNoPart (tPart (tVar ai))) (tLstL (tCons tt tNil)))
      (tSl (rSlcL K) (tVar ri) (tPart (tOp (rI0 fun i j => V.int (i + j)) (tVar ai) (tC (.int 1)))) tNoPart) σ Hc Q := by
  have la : as.length = rs.length := Paired.length rows
  have lm : (as.map V.ref).length = rs.length := by rw [List.length_map, la]
  have sz := sizeLine_eq
  refine ⟨_, hR, _, hA, (i : Int), rfl, R, _, rfl, SqL.of eR, fun A1 H1 n1 e1 s1 => ?_⟩
  rw [cut_take (by omega)] at e1
  refine ht H1 _ s1 fun t H2 s2 et => ⟨by show 1 ≤ sizeLine; decide, fun L1 H3 n3 e3 s3 => ?_⟩
  refine ⟨A1, L1, _, _, rfl, rfl, s3 _ _ (s2 _ _ e1), e3, by rw [List.length_take, lm]; show _ + 1 ≤ sizeLine; omega, fun B1 H4 n4 e4 s4 => ?_⟩
  have S4 : Same Hc H4 := ((s1.trans s2).trans s3).trans s4
  refine ⟨_, hR, _, hA, _, _, rfl, rfl, (i : Int) + 1, rfl, R, _, rfl, SqL.of (S4 _ _ eR), fun A2 H5 n5 e5 s5 => ?_⟩
  have ei : (i : Int) + 1 = ((i + 1 : Nat) : Int) := by omega
  rw [ei, cut_drop (by omega)] at e5
  refine ⟨B1, A2, _, _, rfl, rfl, s5 _ _ e4, e5, by simp only [List.length_append, List.length_take, List.length_drop, lm, List.length_cons, List.length_nil]; omega, fun L H6 n6 e6 s6 => ?_⟩
  have S5 := S4.trans s5
  have S6 := S5.trans s6
  have r6 := rows_same rows S6
  refine h L (as.take i ++ [t] ++ as.drop (i + 1)) H6 (S5.free n6) ?_ ?_ S6
  · rw [e6]
    simp [List.map_take, List.map_drop]
  · exact rows_app (rows_app (rows_take i r6) (.cons (s6 _ _ (s5 _ _ (s4 _ _ (s3 _ _ et)))) .nil)) (rows_drop (i + 1) r6)
theorem r_drop {K : PySem.W.Frag} {σ : L2.St} {ri ai : Nat} {Hc : Hp} {R : Addr} {i : Nat} {as : List Addr} {rs : List Row} {Q : VK} (hR : σ[ri]? = some (some (.ref R))) (hA : σ[ai]? = some (some (.int (i : Nat))))
    (eR : Hc R = some (.lst (as.map V.ref))) (rows : RowsIn Hc as rs) (hi : i < rs.length) (len : rs.length ≤ 1000)
    (h : ∀ L bs H', Hc L = none → H' L = some (.lst (bs.map V.ref)) → RowsIn H' bs (rs.take i ++ rs.drop (i + 1)) → Same Hc H' → Q (.ref L) H') :
    tOp rCatL (tSl (rSlcL K) (tVar ri) tNoPart (tPart (tVar ai)))
      (tSl (rSlcL K) (tVar ri) (tPart (tOp (rI0 fun i j => V.int (i + j)) (tVar ai) (tC (.int 1)))) tNoPart) σ Hc Q := by
  have la : as.length = rs.length := Paired.length rows
  have lm : (as.map V.ref).length = rs.length := by rw [List.length_map, la]
  have sz := sizeLine_eq
  refine ⟨_, hR, _, hA, (i : Int), rfl, R, _, rfl, SqL.of eR, fun A1 H1 n1 e1 s1 => ?_⟩
  rw [cut_take (by omega)] at e1
  refine ⟨_, hR, _, hA, _, _, rfl, rfl, (i : Int) + 1, rfl, R, _, rfl, SqL.of (s1 _ _ eR), fun A2 H5 n5 e5 s5 => ?_⟩
  have ei : (i : Int) + 1 = ((i + 1 : Nat) : Int) := by omega
  rw [ei, cut_drop (by omega)] at e5
  refine ⟨A1, A2, _, _, rfl, rfl, s5 _ _ e1, e5, by simp only [List.length_append, List.length_take, List.length_drop, lm]; omega, fun L H6 n6 e6 s6 => ?_⟩
  have S6 := (s1.trans s5).trans s6
  have r6 := rows_same rows S6
  refine h L (as.take i ++ as.drop (i + 1)) H6 ((s1.trans s5).free n6) ?_ ?_ S6
  · rw [e6]
    simp [List.map_take, List.map_drop]
  · exact rows_app (rows_take i r6) (rows_drop (i + 1) r6)
end KM

set_option Elab.async false
set_option linter.all false
set_option maxRecDepth 100000
set_option maxHeartbeats 2000000
/-! sorted(..) of a tuple of texts; statements that are never reached. -/
namespace GL
open PySem PySem.Spec PyProof.Rows L2
section
variable {prog : Program} {w : World} {A : Around} {E : Value → Shared → Prop} {s : Shared}
theorem sorted_tup {l : Addr} {o : Obj} {vs : List Value} {zs : List Str} {n : Nat} {Q : Value → Shared → Prop} (at_ : s.heap.get? l = some o) (isT : o.cls = .type "tuple") (dat : o.data = .seq vs.toArray n)
    (txts : StrsAre vs zs) (few : vs.length < 64)
    (fin : ∀ (h1 h2 : Heap) (out : List Value) (ys : List Str) (ep : Nat), (∀ b ob, s.heap.get? b = some ob → h1.get? b = some ob) → (∀ b ob, h1.get? b = some ob → h2.get? b = some ob) →
      h2.get? h1.objs.size = some (seqObj "list" out.toArray ep) → StrsAre out ys → ys.Perm zs → sortedS ys = true → Q (.ref h1.objs.size) { s with heap := h2 }) :
    wpAny (model prog w) A (call (.builtin "sorted") [.ref l]) Q E s := by
  have small : vs.length ≤ sizeLine := Nat.le_trans (Nat.le_of_lt few) (by decide)
  refine Calls.call_function_entry kind_sorted plain_sorted entry_sorted (args_sorted1 _) ?_
  unfold Builtin.«sorted»
  refine wpAny_bind (m := checkCount "sorted" 1 1 _) (wpAny_pure (wpAny_bind (wpAny_collect_seq l (.inr rfl) at_ isT dat (fun h1 kp => ?_) (by simpa using small))))
  have ev : vs.toArray.toList = vs := by simp
  rw [ev]
  refine wpAny_bind (wpAny_newList ?_ small)
  have new : (h1.push (seqObj "list" vs.toArray 0)).get? h1.objs.size = some (seqObj "list" vs.toArray 0) := Heap.get?_push_size _ rfl
  refine wpAny_bind (wpAny_holding (wpAny_call_entry slot_list_sort ⟨_, new, rfl⟩ entry_list_sort (list_sort_treeK (s := { s with heap := h1.push (seqObj "list" vs.toArray 0) }) strKind_oneLt new txts.keysOf (fun a b rest e => keyKind_strs (by rw [← e]; exact txts)) few fun st hp hs => ⟨_, rfl, ?_⟩) (args_list_sort _)))
  obtain ⟨ys, g1, g2, g3⟩ := sorted_out_str txts hp hs
  obtain ⟨ep, at2⟩ := sortedHeap_at (vs := vs) (out := (arrOf st).map (·.2)) new
  refine wpAny_pure ⟨_, rfl, fin h1 _ ((arrOf st).map (·.2)).toList ys ep kp (fun b ob e => ?_) (by rw [Array.toArray_toList]; exact at2) g1 g2 g3⟩
  have lt := Heap.lt_size e
  show (sortedHeap (h1.push (seqObj "list" vs.toArray 0)) h1.objs.size vs _).get? b = some ob
  rw [sortedHeap_old (Nat.ne_of_lt lt) (Nat.lt_of_lt_of_le lt (by rw [size_push']; exact Nat.le_succ _))]
  exact Heap.get?_push_of_some _ e
end
section
variable {X : Cx}
/-- sorted(xs) of a list or a tuple of texts -/
def rSortLT (K : PySem.W.Frag) : List V → Hp → VK → Prop := fun vs H Q => ∃ (a : Addr) (xs : List Str), vs = [V.ref a] ∧ (SqL K H a (xs.map V.str) ∨ SqT K H a (xs.map V.str)) ∧ xs.length < 64 ∧
  ∀ ys : List Str, ys.Perm xs → sortedS ys = true → NewK H (.lst (ys.map V.str)) Q
theorem call_sortLT : CallR X (.builtin "sorted") (rSortLT X.K) := by
  intro pins s σ H xs us Q I r h
  obtain ⟨a, zs, rfl, o, few, q⟩ := h
  rcases o with o | o
  · exact call_sortL pins s σ H _ us Q I r ⟨a, zs, rfl, o, few, q⟩
  · obtain ⟨its, rv, ⟨ob, e1, e2, n, e3⟩, _⟩ := I.tuple o
    rw [Vals.ref1 r]
    have len := rv.length
    rw [List.length_map] at len
    refine sorted_tup e1 e2 e3 rv.strs (by rw [← len]; exact few) fun h1 h2 out ys ep kp kp2 at2 g1 g2 g3 => ?_
    have hlen : (ys.map V.str).length ≤ sizeLine := by rw [List.length_map, g2.length_eq]; exact Nat.le_trans (Nat.le_of_lt few) (by decide)
    have I1 : Inv X pins σ H { s with heap := h1 } := I.kept (t' := s.toks) kp
    exact ⟨.ref h1.objs.size, upd H h1.objs.size (.lst (ys.map V.str)), I1.laid (t' := s.toks) kp2 (Nat.le_refl _) ⟨hlen, out, ep, vals_of_strs g1, at2⟩, rfl, (q ys g2 g3).go _ (I1.hok.fresh (Nat.le_refl _))⟩
end
end GL

set_option Elab.async false
set_option linter.all false
set_option maxRecDepth 100000
set_option maxHeartbeats 4000000
namespace KM
open PySem PySem.Spec PyProof.Rows L2 GL
/-! the plain kinds of values, as far as right ones go -/
abbrev sInt : Stmt := top 22
abbrev sCnt : Stmt := top 23
abbrev sNm : Stmt := top 24
abbrev sGd : Stmt := top 25
abbrev sLs : Stmt := top 26
abbrev sTr : Stmt := top 29
def abc : Str := "abcdefghijklmnopqrstuvwxyz"
def kept : List Str := ["coin", "hall", "outside"]
/-- the file's constants -/
structure Wd (K : PySem.W.Frag) (mg : Str → Option Value) : Prop where
  letters : ∃ t, mg "LETTERS" = some (.str abc t)
  most : ∃ t, mg "MOST_LETTERS" = some (.int 8 t)
  no : ∃ a, mg "NO_GOODS" = some (.ref a) ∧ SqT K (fun _ => none) a (kept.map V.str)
def spInt : Sp := fun vs H Q _ => ∃ i : Int, vs = [.int i] ∧ ∀ H', Same H H' → Q (.bl true) H'
def spCnt : Sp := fun vs H Q _ => ∃ i : Int, vs = [.int i] ∧ 0 ≤ i ∧ ∀ H', Same H H' → Q (.bl true) H'
def spNm : Sp := fun vs H Q _ => ∃ x : Str, vs = [.str x] ∧ x ∈ names ∧ ∀ H', Same H H' → Q (.bl true) H'
def spLs (K : PySem.W.Frag) : Sp := fun vs H Q _ => ∃ a xs, vs = [.ref a] ∧ (SqL K H a xs ∨ SqT K H a xs) ∧ ∀ H', Same H H' → Q (.bl true) H'
def spTr : Sp := fun vs H Q _ => ∃ a x y z, vs = [.ref a] ∧ H a = some (.tup [x, y, z]) ∧ ∀ H', Same H H' → Q (.bl true) H'
theorem sqt_at {K : PySem.W.Frag} {T : Addr} {xs : List V} (h : SqT K (fun _ => none) T xs) (H : Hp) : SqT K H T xs := by
  rcases h with (h | ⟨o, h⟩) | h
  · cases h
  · cases h
  · exact .inr h
/-- whether it is a list, a tuple: the type, for isinstance -/
theorem ty_seq {K : PySem.W.Frag} {H : Hp} {a : Addr} {xs : List V} (h : SqL K H a xs ∨ SqT K H a xs) : TyX K H (.ref a) (.type "list") ∨ TyX K H (.ref a) (.type "tuple") := by
  rcases h with ((h | ⟨o, h⟩) | ⟨o, its, n, e, c, _⟩) | ((h | ⟨o, h⟩) | ⟨o, its, n, e, c, _⟩)
  · exact .inl (.base (.lst h))
  · exact .inl (.base (.frz h))
  · exact .inl (.kList e c)
  · exact .inr (.base (.tup h))
  · exact .inr (.fTuple h)
  · exact .inr (.kTuple e c)
section
variable {P : Program} {w : World} {K : PySem.W.Frag} {mg : Str → Option Value} {base : Heap}
abbrev nNm : List Str := ["value", "sign"]
theorem scInt : FnScope ["value"] ["value"] (defScope sInt) := ⟨rfl, rfl, rfl, by decide +kernel, rfl, by decide +kernel, by decide +kernel⟩
theorem scCnt : FnScope ["value"] ["value"] (defScope sCnt) := ⟨rfl, rfl, rfl, by decide +kernel, rfl, by decide +kernel, by decide +kernel⟩
theorem scNm : FnScope nNm ["value"] (defScope sNm) := ⟨rfl, rfl, rfl, by decide +kernel, rfl, by decide +kernel, by decide +kernel⟩
theorem scGd : FnScope ["value"] ["value"] (defScope sGd) := ⟨rfl, rfl, rfl, by decide +kernel, rfl, by decide +kernel, by decide +kernel⟩
theorem scLs : FnScope ["value"] ["value"] (defScope sLs) := ⟨rfl, rfl, rfl, by decide +kernel, rfl, by decide +kernel, by decide +kernel⟩
theorem scTr : FnScope ["value"] ["value"] (defScope sTr) := ⟨rfl, rfl, rfl, by decide +kernel, rfl, by decide +kernel, by decide +kernel⟩
theorem ok_int {f : Addr} {fd : FuncData} (F : Fun K "is_integer" "is_integer" sInt f fd) (T : Bi mg) : FnG P w K mg base CX0 1 f fd ["value"] spInt := by
  refine okG F scInt (fun vs H Q E h => ?_) (fun cdv A out s H vs Q E g hr h => ?_)
  · obtain ⟨i, rfl, _⟩ := h
    rfl
  · obtain ⟨i, rfl, q⟩ := h
    refine ⟨_, (pss_one (ps_ret (pe_and (pe_callB call_isi (by rfl) T.isinstance (by decide +kernel) (pa_cons (pv 0) (pa_cons (pe_bltn (v := .ty "int") (u := .type "int") (by rfl) T.int (by decide +kernel) rfl) pa_nil))) (pe_one (pe_not (pe_callB call_isi (by rfl) T.isinstance (by decide +kernel) (pa_cons (pv 0) (pa_cons (pe_bltn (v := .ty "bool") (u := .type "bool") (by rfl) T.bool (by decide +kernel) rfl) pa_nil)))))))), ?_⟩
    refine ⟨_, rfl, .int i, .ty "int", .type "int", .type "int", true, rfl, .ty "int", .base (.int i), kit_ty (by decide +kernel), true, rfl, ?_⟩
    exact ⟨_, rfl, .int i, .ty "bool", .type "int", .type "bool", false, rfl, .ty "bool", .base (.int i), kit_ty (by decide +kernel), false, rfl, q _ (Same.refl' _)⟩
theorem ok_cnt {f : Addr} {fd : FuncData} (F : Fun K "is_count" "is_count" sCnt f fd) (I : Has P w K mg base "is_integer" 1 ["value"] spInt) : FnG P w K mg base CX0 2 f fd ["value"] spCnt := by
  refine okG F scCnt (fun vs H Q E h => ?_) (fun cdv A out s H vs Q E g hr h => ?_)
  · obtain ⟨i, rfl, _⟩ := h
    rfl
  · obtain ⟨i, rfl, hi, q⟩ := h
    refine ⟨_, (pss_one (ps_ret (pe_and (pe_has I g hr (by rfl) (pa_cons (pv 0) pa_nil)) (pe_one (pe_cmpR op_ge (pv 0) pe_int (nomark _)))))), ?_⟩
    refine ⟨_, rfl, rfl, rfl, i, rfl, fun H' s' => ⟨true, rfl, _, rfl, _, _, rfl, rfl, ?_⟩⟩
    show Q (V.bl (decide ((0 : Int) ≤ i))) H'
    rw [decide_eq_true hi]
    exact q H' s'
theorem ok_name {f : Addr} {fd : FuncData} (F : Fun K "is_name" "is_name" sNm f fd) (T : Bi mg) (W : Wd K mg) : FnG P w K mg base CX0 1 f fd ["value"] spNm := by
  obtain ⟨tL, hL⟩ := W.letters
  obtain ⟨t8, h8⟩ := W.most
  refine okG F scNm (fun vs H Q E h => ?_) (fun cdv A out s H vs Q E g hr h => ?_)
  · obtain ⟨x, rfl, _⟩ := h
    rfl
  · obtain ⟨x, rfl, hx, q⟩ := h
    have fact : ∀ x ∈ names, 1 ≤ x.length ∧ x.length ≤ 8 ∧ ∀ c ∈ x.cps.toList, c ∈ abc.cps.toList := by decide +kernel
    obtain ⟨l1, l8, low⟩ := fact x hx
    have sz := sizeLine_eq
    refine ⟨_, (pss_cons (ps_if (PW.pt (pw_or (pt_not (pt_val (pe_callB call_isi (by rfl) T.isinstance (by decide +kernel) (pa_cons (pv 0) (pa_cons (pe_bltn (v := .ty "str") (u := .type "str") (by rfl) T.str (by decide +kernel) rfl) pa_nil))))) (pw_or1 (pt_not (pt_chain op_le op_le pe_int (pe_callB call_len_str (by rfl) T.len PySem.boot_len (pa_cons (pv 0) pa_nil)) (pe_glob (v := .int 8) (by rfl) h8 ⟨_, rfl⟩)))))) (pss_one (ps_ret pe_bl)) pss_nil)
      (pss_one (ps_ret (pe_callB (cr_all (by rfl)) (by rfl) T.all (by decide +kernel) (pa_cons (pe_lc (own := [("sign", 1)]) (g := gName 1) (by rfl) scNm.nd (pi_str (pv 0)) (blkOk_by (own := [("sign", 1)]) (N := nNm) (sc := defScope sNm) (by decide +kernel)) (fun _ _ _ _ _ => pg_name (i := 1) scNm.nd rfl (.inl rfl)) (fun _ _ _ _ _ => pts_nil) (fun _ _ _ _ _ => by exact (pe_cmpR op_in_sign (pv 1) (pe_glob (v := .str abc) (by rfl) hL ⟨_, rfl⟩) rfl))) pa_nil))))), ?_⟩
    refine ⟨_, rfl, .str x, .ty "str", .type "str", .type "str", true, rfl, .ty "str", .base (.str x), kit_ty (by decide +kernel), _, rfl, ?_⟩
    refine iteF ?_
    refine ⟨_, rfl, x, rfl, by omega, _, _, rfl, rfl, true, congrArg V.bl (decide_eq_true (by omega)), ?_⟩
    refine ⟨_, _, rfl, rfl, true, congrArg V.bl (decide_eq_true (by omega)), ?_⟩
    refine iteF ?_
    refine ⟨_, rfl, x, rfl, fun D5 nD5 => lc_it walk_str (fun i H' => Same H H' ∧ H' D5 = some (.lst ((List.replicate i true).map V.bl))) ⟨same_new (Same.refl' _) nD5, upd_same⟩ (fun _ _ _ _ => True.intro) ?_ ?_⟩
    · rintro i xv H' H2 hi ⟨sd, eD5⟩ ⟨rfl, c, hc, rfl⟩
      refine ⟨rfl, yes_go ?_⟩
      have mem : c ∈ x.cps.toList := by
        rw [Array.mem_toList_iff]
        exact Array.mem_of_getElem? hc
      refine ⟨_, rfl, c, abc, rfl, rfl, ?_⟩
      have hsz : x.cps.size = x.length := rfl
      refine ⟨_, eD5, by rw [List.length_map, List.length_replicate]; exact small1000 (by omega), ?_, ?_⟩
      · intro b o e
        rw [upd_ne (ne_of_none e nD5)]
        exact sd _ _ e
      · rw [upd_same, List.replicate_succ', List.map_append, decide_eq_true (low c mem)]
        rfl
    · rintro H25 ⟨S25, eD5⟩
      refine ⟨D5, List.replicate x.cps.size true, rfl, SqL.of eD5, ?_⟩
      have z : (List.replicate x.cps.size true).all id = true := by simp
      show Q (V.bl ((List.replicate x.cps.size true).all id)) H25
      rw [z]
      exact q H25 S25
theorem ok_good {f : Addr} {fd : FuncData} (F : Fun K "is_good" "is_good" sGd f fd) (W : Wd K mg) (I : Has P w K mg base "is_name" 1 ["value"] spNm) : FnG P w K mg base CX0 2 f fd ["value"] spNm := by
  obtain ⟨tN, hN, sN⟩ := W.no
  refine okG F scGd (fun vs H Q E h => ?_) (fun cdv A out s H vs Q E g hr h => ?_)
  · obtain ⟨x, rfl, _⟩ := h
    rfl
  · obtain ⟨x, rfl, hx, q⟩ := h
    have fact : ∀ x ∈ names, (!inV (.str x) (kept.map V.str)) = true := by decide +kernel
    refine ⟨_, (pss_one (ps_ret (pe_and (pe_has I g hr (by rfl) (pa_cons (pv 0) pa_nil)) (pe_one (pe_cmpR op_notIn_seq (pv 0) (pe_glob (v := .ref tN) (by rfl) hN rfl) rfl))))), ?_⟩
    refine ⟨_, rfl, rfl, rfl, x, rfl, hx, fun H' s' => ⟨true, rfl, ?_⟩⟩
    refine ⟨_, rfl, tN, _, rfl, .inr (sqt_at sN _), rfl, by decide +kernel, ?_⟩
    show Q (V.bl (!inV (.str x) (kept.map V.str))) H'
    rw [fact x hx]
    exact q H' s'
theorem ok_list {f : Addr} {fd : FuncData} (F : Fun K "is_list" "is_list" sLs f fd) (T : Bi mg) : FnG P w K mg base CX0 1 f fd ["value"] (spLs K) := by
  refine okG F scLs (fun vs H Q E h => ?_) (fun cdv A out s H vs Q E g hr h => ?_)
  · obtain ⟨a, xs, rfl, _⟩ := h
    rfl
  · obtain ⟨a, xs, rfl, hq, q⟩ := h
    refine ⟨_, (pss_one (ps_ret (pe_callB call_isiT (by rfl) T.isinstance (by decide +kernel) (pa_cons (pv 0) (pa_cons (pe_tupL (pa_cons (pe_bltn (v := .ty "list") (u := .type "list") (by rfl) T.list (by decide +kernel) rfl) (pa_cons (pe_bltn (v := .ty "tuple") (u := .type "tuple") (by rfl) T.tuple (by decide +kernel) rfl) pa_nil))) pa_nil))))), ?_⟩
    refine ⟨_, rfl, by show 2 ≤ sizeLine; decide, fun tp H1 n1 e1 s1 => ?_⟩
    have hq1 : SqL K H1 a xs ∨ SqT K H1 a xs := hq.imp s1.seq (same_tup s1)
    rcases ty_seq hq1 with t | t
    · exact ⟨.ref a, tp, _, .type "list", [.type "list", .type "tuple"], true, rfl, e1, .cons (.ty "list") (.cons (.ty "tuple") .nil), t, kitAny_cons (b := true) (kit_ty (by decide +kernel)) (fun z => by cases z) (fun _ => rfl), q _ s1⟩
    · exact ⟨.ref a, tp, _, .type "tuple", [.type "list", .type "tuple"], true, rfl, e1, .cons (.ty "list") (.cons (.ty "tuple") .nil), t, kitAny_cons (b := false) (kit_ty (by decide +kernel)) (fun _ => kitAny_cons (b := true) (kit_ty (by decide +kernel)) (fun z => by cases z) (fun _ => rfl)) (fun z => by cases z), q _ s1⟩
theorem ok_triple {f : Addr} {fd : FuncData} (F : Fun K "is_triple" "is_triple" sTr f fd) (T : Bi mg) : FnG P w K mg base CX0 1 f fd ["value"] spTr := by
  refine okG F scTr (fun vs H Q E h => ?_) (fun cdv A out s H vs Q E g hr h => ?_)
  · obtain ⟨a, x, y, z, rfl, _⟩ := h
    rfl
  · obtain ⟨a, x, y, z, rfl, ha, q⟩ := h
    refine ⟨_, (pss_one (ps_ret (pe_and (pe_callB call_isi (by rfl) T.isinstance (by decide +kernel) (pa_cons (pv 0) (pa_cons (pe_bltn (v := .ty "tuple") (u := .type "tuple") (by rfl) T.tuple (by decide +kernel) rfl) pa_nil))) (pe_one (pe_cmpR op_eq (pe_callB call_len_seq (by rfl) T.len PySem.boot_len (pa_cons (pv 0) pa_nil)) pe_int (nomark _)))))), ?_⟩
    refine ⟨_, rfl, .ref a, .ty "tuple", .type "tuple", .type "tuple", true, rfl, .ty "tuple", .base (.tup ha), kit_ty (by decide +kernel), true, rfl, ?_⟩
    refine ⟨_, rfl, a, _, rfl, .inr (SqT.of ha), rfl, ?_⟩
    show Q (V.bl (decide (V.int 3 = V.int 3))) H
    rw [decide_eq_true rfl]
    exact q H (Same.refl' _)
end
end KM

set_option Elab.async false
set_option linter.all false
set_option maxRecDepth 100000
set_option maxHeartbeats 2000000
/-! enumerate(..) of a tuple, and of a list or a tuple. -/
namespace GL
open PySem PySem.Spec PyProof.Rows L2
set_option maxHeartbeats 4000000 in
theorem meets_enum_one {it : Value} {ob : Obj} {Hv : Heap → Prop} (B : Begins it ob Hv) :
    Meets (Builtin.«enumerate.__new__» ⟨[.type "enumerate", it], []⟩) (fun _ Rz z => Hv z.heap ∧ Rz (.ok (.ret (.ref (z.heap.push ob).objs.size)))
      { z with heap := (z.heap.push ob).push { cls := .type "enumerate", data := .fields #[.none, .bool false, .ref z.heap.objs.size, rawInt 0, .none, .none] } }) :=
  .of_wp fun prog w A Rz z hz => by
    obtain ⟨hp, gs, ds, tk, os⟩ := z
    obtain ⟨g1, gz⟩ := hz
    have hsub := sub_enumerate
    have step : ∀ {A2 : Around} {E2 : Value → Shared → Prop} {Q2 : Value → Shared → Prop}, Q2 (.ref hp.objs.size) ⟨hp.push ob, gs, ds, tk, os⟩ → wpAny (model prog w) A2 (pyIter it) Q2 E2 ⟨hp, gs, ds, tk, os⟩ :=
      fun y => B.iter prog w _ _ ⟨hp, gs, ds, tk, os⟩ _ g1 y
    wp_walk using step
    refine wpAny_stack_any fun _ => wpAny_pure ?_
    split
    · rename_i cz _ _ _ _ _
      cases (cz == Value.type "enumerate") <;> (wp_walk using step; exact ⟨_, rfl, gz⟩)
    · wp_walk using step
      exact ⟨_, rfl, gz⟩
section
variable {prog : Program} {w : World} {A : Around} {E : Value → Shared → Prop} {s : Shared}
/-- enumerate(it): its two new cells -/
theorem call_enum_one {it : Value} {ob : Obj} {Hv : Heap → Prop} {Q : Value → Shared → Prop} (B : Begins it ob Hv) (g1 : Hv s.heap)
    (fin : ∀ h2, IsEnum h2 (s.heap.objs.size + 1) s.heap.objs.size 0 .none → h2.get? s.heap.objs.size = some ob → (∀ b u, s.heap.get? b = some u → h2.get? b = some u) → Q (.ref (s.heap.objs.size + 1)) { s with heap := h2 }) :
    wpAny (model prog w) A (call (.type "enumerate") [it]) Q E s := by
  refine callType_new F.called_enumerate (by decide) (F.typeCall_enumerate_1 _) (F.newCall_enumerate_1 _) (fun z => F.args_object_init_2 z _) F.entry_enumerate_new (meets_enum_one B) ⟨g1, ?_⟩
  have sz1 : (s.heap.push ob).objs.size = s.heap.objs.size + 1 := Heap.size_push ..
  show _ ∧ _
  rw [sz1]
  let ez : Obj := { cls := .type "enumerate", data := .fields #[.none, .bool false, .ref s.heap.objs.size, rawInt 0, .none, .none] }
  have en : IsEnum ((s.heap.push ob).push ez) (s.heap.objs.size + 1) s.heap.objs.size 0 .none := by
    have z := Heap.get?_push_size (s.heap.push ob) (o := ez) rfl
    rw [sz1] at z
    exact z
  exact ⟨⟨_, en, rfl⟩, fin _ en (Heap.get?_push_of_some _ (Heap.get?_push_size _ B.free)) fun b u y => Heap.get?_push_of_some _ (Heap.get?_push_of_some _ y)⟩
end
/-- the tuple at a, each item in a new pair -/
def ItT (K : PySem.W.Frag) (a : Addr) : It where
  go := fun i H => ∃ (xs : List V) (x : V), SqT K H a xs ∧ xs[i]? = some x
  yld := fun i H v H' => ∃ T x, v = .ref T ∧ H T = none ∧ H' = upd H T (.tup [.int (i : Nat), x]) ∧ ∀ xs, SqT K H a xs → xs[i]? = some x
  stop := fun i H => ∃ xs : List V, SqT K H a xs ∧ xs.length ≤ i
theorem turn_enumT {P : Program} {w : World} {K : PySem.W.Frag} {elts : List Expr} {kk : Nat} {tpos : Pos} (a e it : Addr) :
    Turn P w K (.Tuple elts kk tpos) (ItT K a) [e, it] e (fun i h => (∃ old, IsEnum h e it ((i : Nat) : Int) old) ∧ h.IsTupleIter it a i ∧ e ≠ it) where
  mem := List.mem_cons_self
  obj := by
    rintro i h ⟨⟨old, en⟩, ⟨o, ho, hc, hd⟩, _⟩ b hb
    rcases List.mem_cons.mp hb with z | z
    · subst z
      exact ⟨_, en, fun v q => nomatch q⟩
    · exact ⟨o, (List.mem_singleton.mp z) ▸ ho, fun v q => by rw [hd] at q; cases q⟩
  keep := fun i h h' ⟨⟨old, en⟩, tt, ne⟩ k => ⟨⟨old, k e (by simp) _ en⟩, tt.at fun o q => k it (by simp) o q, ne⟩
  item := by
    intro X hP hw hK hc i pins s σ H E I hf st hg
    subst hP hw hK
    obtain ⟨⟨old, en⟩, tt, ne⟩ := st
    obtain ⟨xs, x, hq, hx⟩ := hg
    obtain ⟨its, rv, p, _⟩ := I.tuple hq
    obtain ⟨u, hu, ru⟩ := rv.get hx
    have le := Heap.lt_size en
    obtain ⟨oi, e1, e2, _⟩ := id tt
    obtain ⟨op, f1, f2, n, f3⟩ := id p
    have li := Heap.lt_size e1
    have ai : a ≠ it := fun z => by
      rw [z, e1] at f1
      cases f1
      rw [e2] at f2
      exact absurd f2 (by decide)
    have ea : e ∉ [it, a] := fun z => by
      rcases List.mem_cons.mp z with z | z
      · exact ne z
      · have z := List.mem_singleton.mp z
        have q : s.heap.get? a = _ := z ▸ en
        rw [q] at f1
        cases f1
        exact absurd (show Value.type "enumerate" = Value.type "tuple" from f2) (by decide)
    have D := Draws.tuple (prog := X.prog) (w := X.w) (A := X.A.in1) (I.ok.hd hc) it a ai its.toArray
    have hi : i < its.toArray.size := by
      have := (List.getElem?_eq_some_iff.mp hu).1
      simpa using this
    refine wpAny_pyNext_enum_itemD D en ⟨tt, op, f1, f2, n, f3⟩ hi ne ea fun y h' tk hy ho hs hT hsz hk => ?_
    have hy' : u = y := by
      have z : its[i]? = some y := by simpa using hy
      rw [hu] at z
      exact Option.some.inj z
    subst hy'
    refine ⟨_, rfl, wpAny_letOwnedTupleGo_enum (s := { s with heap := h', toks := tk + 1 }) ho fun h'' he' sb => ?_⟩
    have hT2 : h''.get? s.heap.objs.size = some { cls := .type "tuple", data := .seq #[.int i tk, u] } := (sb.2 _ (Nat.ne_of_gt le)).trans hT
    have new : ObjOk X.prog X.w (upd H s.heap.objs.size (.tup [.int (i : Nat), x])) h'' s.heap.objs.size (.tup [.int (i : Nat), x]) :=
      ⟨by show 2 ≤ sizeLine; decide, [.int i tk, u], .cons ⟨_, rfl⟩ (.cons ru .nil), ⟨_, hT2, rfl, _, rfl⟩⟩
    have I1 : Inv X pins σ (upd H s.heap.objs.size (.tup [.int (i : Nat), x])) { s with heap := h'', toks := tk + 1 } :=
      I.turnedNew (ch := [e, it]) (fun b ob hb q => (sb.2 b fun z => hb (by simp [z])).trans (hk b ob (fun z => hb (by simp [z])) (fun z => hb (by simp [z])) q)) hf (Nat.le_refl _) new
    refine ⟨.ref s.heap.objs.size, _, I1, rfl, ⟨_, x, rfl, I.hok.fresh (Nat.le_refl _), rfl, fun ys hz => by rw [I.tuple_inj hz hq]; exact hx⟩, ⟨⟨u, ?_⟩, hs.1.at fun o q => (sb.2 it ne.symm).trans q, ne⟩, fun b hb => ?_⟩
    · have k1 : ((i + 1 : Nat) : Int) = (i : Int) + 1 := by omega
      rw [k1]
      exact he'
    · have lt : b < s.heap.objs.size := by
        rcases List.mem_cons.mp hb with z | z
        · exact z ▸ le
        · exact (List.mem_singleton.mp z) ▸ li
      rw [upd_ne (Nat.ne_of_lt lt)]
      exact (hf b hb).1
  done := by
    intro X hP hw hK hc i pins s σ H E I hf st hg
    subst hP hw hK
    obtain ⟨⟨old, en⟩, tt, ne⟩ := st
    obtain ⟨xs, hq, hx⟩ := hg
    obtain ⟨its, rv, p, _⟩ := I.tuple hq
    obtain ⟨oi, e1, e2, _⟩ := id tt
    obtain ⟨op, f1, f2, n, f3⟩ := id p
    have ai : a ≠ it := fun z => by
      rw [z, e1] at f1
      cases f1
      rw [e2] at f2
      exact absurd f2 (by decide)
    obtain ⟨f0, f1', f2', f3', f4, f5⟩ := hf it (by simp)
    have hT : s.TypeIs (.ref e) "enumerate" := ⟨_, en, rfl⟩
    unfold pyNext
    refine wpAny_bind (wpAny_attempt (wpAny_callSpecial?_slot (name := Str.ofString "__next__") hT F.slot_enumerate_next (wpAny_call_entry F.slot_enumerate_next hT F.entry_enumerate_next ?_ (F.args_enumerate_next_1 _))))
    show wpAny _ _ (field (.ref e) 2 >>= _) _ _ _
    refine wpAny_bind (wpAny_field en rfl (x := .ref it) rfl (wpAny_bind (wpAny_nextOf_tuple_end (I.ok.hd hc) tt p (Array.getElem?_eq_none (by have := rv.length; simp; omega)) fun h' x eb hx' => ?_)))
    obtain ⟨ox, hox, hcx⟩ := hx'
    exact wpAny_bind (wpAny_isInstance (T := "StopIteration") (b := true) ⟨ox, hox, hcx⟩ isSubtype_stop (wpAny_pure ⟨rfl, I.turned (t' := s.toks) (fun b o hb q => eb b o hb q) f0 f1' f3' f4 f5⟩))
  self := fun A i s Q E ⟨⟨_, en⟩, _⟩ h => wpAny_pyIter_enum en h
/-- enumerate(xs) of a list or a tuple -/
def iEnumA (K : PySem.W.Frag) (ta : TA) : TI := fun σ H R => ta σ H fun vs H1 => ∃ a xs, vs = [.ref a] ∧ ((SqL K H1 a xs ∧ R (Ite K a) H1) ∨ (SqT K H1 a xs ∧ R (ItT K a) H1))
theorem pi_enumA {X : Cx} {e : Expr} {ta : TA} {p pos tpos : Pos} {elts : List Expr} {kk : Nat} (hg : Gl X "enumerate") (hm : X.mg "enumerate" = none) (ha : PA X [e] ta)
    (hs : starEach [e] X.env = [(false, eval e X.env)] := by rfl) : PI X (.Tuple elts kk tpos) (.Call (.Name "enumerate" p) [e] [] pos) (iEnumA X.K ta) := by
  constructor
  intro pins s σ H R I h
  refine Call_ (ld_blt I hg hm boot_enumerate (PyProof.Rows.callWith_type1 (thn (ha.run pos pins s σ H _ I h) ?_) hs rfl))
  rintro us s1 ⟨vs, H1, I1, r1, a, xs, rfl, hq⟩
  obtain rfl := Vals.ref1 r1
  have lay : ∀ b : Addr, b = s1.heap.objs.size + 1 ∨ b = s1.heap.objs.size → FpOk X pins H1 b := fun b z => by
    have le : s1.heap.objs.size ≤ b := by rcases z with z | z <;> rw [z] <;> first | exact Nat.le_refl _ | exact Nat.le_succ _
    exact I1.fpOk le (I1.hok.fresh le)
  rcases hq with ⟨hq, q⟩ | ⟨hq, q⟩
  · obtain ⟨its, rv, pl, _⟩ := I1.list hq
    refine call_enumerate_list pl.isList fun h2 en tt sz2 kp => wpAny_pyIter_enum en ?_
    refine ⟨s1.heap.objs.size + 1, [s1.heap.objs.size + 1, s1.heap.objs.size], _, _, H1, rfl, I1.kept (t' := s1.toks) kp, turn_enum a (s1.heap.objs.size + 1) s1.heap.objs.size, ⟨⟨.none, en⟩, tt, Nat.succ_ne_self _⟩, fun b hb => ?_, q⟩
    exact lay b (by simpa using hb)
  · obtain ⟨its, rv, pl, _⟩ := I1.tuple hq
    refine call_enum_one (begins_tuple a its.toArray) pl fun h2 en tt kp => wpAny_pyIter_enum en ?_
    refine ⟨s1.heap.objs.size + 1, [s1.heap.objs.size + 1, s1.heap.objs.size], _, _, H1, rfl, I1.kept (t' := s1.toks) kp, turn_enumT a (s1.heap.objs.size + 1) s1.heap.objs.size, ⟨⟨.none, en⟩, ⟨_, tt, rfl, rfl⟩, Nat.succ_ne_self _⟩, fun b hb => ?_, q⟩
    exact lay b (by simpa using hb)
end GL

set_option Elab.async false
set_option linter.all false
set_option maxRecDepth 100000
set_option maxHeartbeats 4000000
namespace KM
open PySem PySem.Spec PyProof.Rows L2 GL
/-! conditions, and the checks, as far as right values go -/
abbrev sAmo : Stmt := top 27
abbrev sEn : Stmt := top 41
abbrev sCo : Stmt := top 42
abbrev sCg : Stmt := top 43
abbrev sCc : Stmt := top 44
def Sq (K : PySem.W.Frag) (H : Hp) (a : Addr) (xs : List V) : Prop := SqL K H a xs ∨ SqT K H a xs
theorem Sq.same {K : PySem.W.Frag} {H H' : Hp} {a : Addr} {xs : List V} (h : Sq K H a xs) (s : Same H H') : Sq K H' a xs := h.imp s.seq (same_tup s)
def spEn (K : PySem.W.Frag) : Sp := fun vs H Q _ => ∃ (a : Option Str) (G : Addr) (gs : List Str), vs = [.ref G, oV a] ∧ Sq K H G (gs.map V.str) ∧ (∀ x, a = some x → x ∈ gs) ∧ ∀ H', Same H H' → Q (.bl true) H'
/-- is_among of a text: whether it is one of them -/
def spAmo (K : PySem.W.Frag) : Sp := fun vs H Q _ => ∃ (x : Str) (G : Addr) (gs : List Str), vs = [.ref G, .str x] ∧ Sq K H G (gs.map V.str) ∧ ∀ H', Same H H' → Q (.bl (inV (.str x) (gs.map V.str))) H'
def spCo (K : PySem.W.Frag) : Sp := fun vs H Q _ => ∃ (t G : Addr) (gs : List Str) (r : Row), vs = [.ref G, .ref t] ∧ RowAt H t r ∧ Sq K H G (gs.map V.str) ∧ GoodGs gs ∧ GoodRow gs r ∧ ∀ H', Same H H' → Q (.bl true) H'
def spCg (K : PySem.W.Frag) : Sp := fun vs H Q _ => ∃ (G : Addr) (gs : List Str), vs = [.ref G] ∧ Sq K H G (gs.map V.str) ∧ GoodGs gs ∧ ∀ H', Same H H' → Q .non H'
def spCc (K : PySem.W.Frag) : Sp := fun vs H Q _ => ∃ (G R : Addr) (gs : List Str) (rs : List Row) (as : List Addr), vs = [.ref G, .ref R] ∧ Sq K H G (gs.map V.str) ∧ Sq K H R (as.map V.ref) ∧ RowsIn H as rs ∧ GoodGs gs ∧ GoodRows gs rs ∧ ∀ H', Same H H' → Q .non H'
theorem in_strs {x : Str} {gs : List Str} (h : x ∈ gs) : inV (.str x) (gs.map V.str) = true :=
  List.any_eq_true.mpr ⟨.str x, List.mem_map.mpr ⟨x, h, rfl⟩, by show (x == x) = true; simp⟩
theorem flat_strs (gs : List Str) : (gs.map V.str).all flatV = true := by
  rw [List.all_eq_true]
  intro v hv
  obtain ⟨x, _, rfl⟩ := List.mem_map.mp hv
  rfl
/-- a turn of enumerate: a new pair -/
def YEn (xs : List V) : Nat → Hp → V → Hp → Prop := fun i H v H' => ∃ T x, v = .ref T ∧ H T = none ∧ H' = upd H T (.tup [.int (i : Nat), x]) ∧ xs[i]? = some x
theorem walk_eL {K : PySem.W.Frag} {a : Addr} {xs : List V} : Walk (Ite K a) xs.length (fun H => SqL K H a xs) (YEn xs) :=
  ⟨fun i _ hi h => ⟨xs, xs[i], h, by simp [hi]⟩, fun _ h => ⟨xs, h, Nat.le_refl _⟩, fun i H x H' _ h y => by
    obtain ⟨T, z, e, n, u, w⟩ := y
    exact ⟨T, z, e, n, u, w _ h⟩⟩
theorem walk_eT {K : PySem.W.Frag} {a : Addr} {xs : List V} : Walk (ItT K a) xs.length (fun H => SqT K H a xs) (YEn xs) :=
  ⟨fun i _ hi h => ⟨xs, xs[i], h, by simp [hi]⟩, fun _ h => ⟨xs, h, Nat.le_refl _⟩, fun i H x H' _ h y => by
    obtain ⟨T, z, e, n, u, w⟩ := y
    exact ⟨T, z, e, n, u, w _ h⟩⟩
/-- what a for asks of its walk -/
abbrev ForW (J : It) (g : TG) (tb : TS) (D : L2.Ends) (σ : L2.St) (H : Hp) : Prop :=
  ∃ W : Nat → Nat → L2.St → Hp → Prop, (∃ m, W 0 m σ H) ∧ ∀ i m σ H, W i m σ H → (J.stop i H ∧ D.nx σ H) ∨
    (J.go i H ∧ ∃ N : L2.St → Hp → Prop, (∀ σ' H', N σ' H' → ∃ m', m' < m ∧ W (i + 1) m' σ' H') ∧ ∀ x H', J.yld i H x H' → g x σ H' fun σ2 H2 => tb { D with nx := N, ct := N, bk := D.nx } σ2 H2)
theorem for_enum {K : PySem.W.Frag} {a : Addr} {xs : List V} {g : TG} {tb : TS} {D : L2.Ends} {σ : L2.St} {H0 H : Hp} (hq : Sq K H0 a xs) (s0 : Same H0 H) (Pv : Nat → L2.St → Hp → Prop) (h0 : Pv 0 σ H)
    (hS : ∀ i σ' H', Pv i σ' H' → Same H0 H') (hs : ∀ i x σ' H1 H', i < xs.length → Pv i σ' H1 → YEn xs i H1 x H' → g x σ' H' fun σ2 H2 => tb { D with nx := Pv (i + 1), ct := Pv (i + 1), bk := D.nx } σ2 H2)
    (hd : ∀ σ' H', Pv xs.length σ' H' → D.nx σ' H') : (SqL K H a xs ∧ ForW (Ite K a) g tb D σ H) ∨ (SqT K H a xs ∧ ForW (ItT K a) g tb D σ H) := by
  rcases hq with q | q
  · exact .inl ⟨s0.seq q, for_it walk_eL Pv h0 (fun i σ' H' _ p => (hS i σ' H' p).seq q) hs hd⟩
  · exact .inr ⟨same_tup s0 q, for_it walk_eT Pv h0 (fun i σ' H' _ p => same_tup (hS i σ' H' p) q) hs hd⟩
/-- the dict of the goods ahead -/
def dKs (gs : List Str) : List (L2.Key × V) := gs.map fun x => (Sum.inr x, .bl true)
theorem dks_none {x : Str} : ∀ {gs : List Str}, x ∉ gs → valV (dKs gs) (Sum.inr x : L2.Key) = none
  | [], _ => rfl
  | a :: r, h => by
    have h1 : ¬ (Sum.inr a : L2.Key) = Sum.inr x := fun z => h (by cases z; exact List.mem_cons_self)
    show valV ((Sum.inr a, V.bl true) :: dKs r) _ = none
    rw [valV_neg h1]
    exact dks_none fun z => h (List.mem_cons_of_mem _ z)
theorem dks_put {x : Str} {gs : List Str} (h : x ∉ gs) : putK (dKs gs) (Sum.inr x : L2.Key) (.bl true) = dKs (gs ++ [x]) := by
  unfold putK
  rw [valV_any, dks_none h]
  show dKs gs ++ [(Sum.inr x, V.bl true)] = _
  unfold dKs
  rw [List.map_append]
  rfl
theorem nodup_at {gs : List Str} (h : gs.Nodup) {i : Nat} {x : Str} (e : gs[i]? = some x) : x ∉ gs.take i := by
  intro m
  obtain ⟨j, hj, ej⟩ := List.mem_iff_getElem.mp m
  rw [List.length_take] at hj
  rw [List.getElem_take] at ej
  obtain ⟨hi, ei⟩ := List.getElem?_eq_some_iff.mp e
  exact List.pairwise_iff_getElem.mp h j i (by omega) hi (by omega) (ej.trans ei.symm)
section
variable {P : Program} {w : World} {K : PySem.W.Frag} {mg : Str → Option Value} {base : Heap}
theorem scAmo : FnScope ["names", "value"] ["names", "value"] (defScope sAmo) := ⟨rfl, rfl, rfl, by decide +kernel, rfl, by decide +kernel, by decide +kernel⟩
theorem scEn : FnScope ["goods", "value"] ["goods", "value"] (defScope sEn) := ⟨rfl, rfl, rfl, by decide +kernel, rfl, by decide +kernel, by decide +kernel⟩
theorem scCo : FnScope ["goods", "value", "one", "other", "most"] ["goods", "value"] (defScope sCo) := ⟨rfl, rfl, rfl, by decide +kernel, rfl, by decide +kernel, by decide +kernel⟩
theorem scCg : FnScope ["goods", "ahead", "position", "good"] ["goods"] (defScope sCg) := ⟨rfl, rfl, rfl, by decide +kernel, rfl, by decide +kernel, by decide +kernel⟩
theorem scCc : FnScope ["goods", "conditions", "position", "condition"] ["goods", "conditions"] (defScope sCc) := ⟨rfl, rfl, rfl, by decide +kernel, rfl, by decide +kernel, by decide +kernel⟩
theorem ok_am {f : Addr} {fd : FuncData} (F : Fun K "is_among" "is_among" sAmo f fd) (T : Bi mg) : FnG P w K mg base CX0 1 f fd ["names", "value"] (spAmo K) := by
  refine okG F scAmo (fun vs H Q E h => ?_) (fun cdv A out s H vs Q E g hr h => ?_)
  · obtain ⟨x, G, gs, rfl, _⟩ := h
    rfl
  · obtain ⟨x, G, gs, rfl, hq, q⟩ := h
    refine ⟨_, (pss_one (ps_ret (pe_and (pe_callB call_isi (by rfl) T.isinstance (by decide +kernel) (pa_cons (pv 1) (pa_cons (pe_bltn (v := .ty "str") (u := .type "str") (by rfl) T.str (by decide +kernel) rfl) pa_nil))) (pe_one (pe_cmpR op_in_seq (pv 1) (pv 0) rfl))))), ?_⟩
    refine ⟨_, rfl, .str x, .ty "str", .type "str", .type "str", true, rfl, .ty "str", .base (.str x), kit_ty (by decide +kernel), true, rfl, ?_⟩
    refine ⟨_, rfl, _, rfl, G, _, rfl, hq, rfl, flat_strs gs, ?_⟩
    exact q H (Same.refl' _)
theorem ok_end {f : Addr} {fd : FuncData} (F : Fun K "_is_one_of" "_is_one_of" sEn f fd) (AM : Has P w K mg base "is_among" 1 ["names", "value"] (spAmo K)) : FnG P w K mg base CX0 2 f fd ["goods", "value"] (spEn K) := by
  refine okG F scEn (fun vs H Q E h => ?_) (fun cdv A out s H vs Q E g hr h => ?_)
  · obtain ⟨a, G, gs, rfl, _⟩ := h
    rfl
  · obtain ⟨a, G, gs, rfl, hq, ha, q⟩ := h
    refine ⟨_, (pss_one (ps_ret (pe_or (pe_cmpR op_isN (pv 1) pe_non (nomark _)) (pe_one (pe_has AM g hr (by rfl) (pa_cons (pv 0) (pa_cons (pv 1) pa_nil))))))), ?_⟩
    cases a with
    | none =>
      exact ⟨_, rfl, rfl, true, congrArg V.bl (decide_eq_true rfl), q _ (Same.refl' _)⟩
    | some x =>
      refine ⟨_, rfl, rfl, false, congrArg V.bl (decide_eq_false (by intro z; cases z)), ?_⟩
      refine ⟨_, rfl, _, rfl, rfl, rfl, x, G, gs, rfl, hq, fun H1 s1 => ?_⟩
      rw [in_strs (ha x rfl)]
      exact q H1 s1
theorem ok_cond {f : Addr} {fd : FuncData} (F : Fun K "_is_condition" "_is_condition" sCo f fd) (TR : Has P w K mg base "is_triple" 1 ["value"] spTr) (EN : Has P w K mg base "_is_one_of" 2 ["goods", "value"] (spEn K))
    (IT : Has P w K mg base "is_integer" 1 ["value"] spInt) : FnG P w K mg base CX0 3 f fd ["goods", "value"] (spCo K) := by
  refine okG F scCo (fun vs H Q E h => ?_) (fun cdv A out s H vs Q E g hr h => ?_)
  · obtain ⟨t, G, gs, r, rfl, _⟩ := h
    rfl
  · obtain ⟨t, G, gs, r, rfl, et, hq, GG, gr, q⟩ := h
    have hr1 : Room 1 _ := hr.mono (by decide)
    have hr2 : Room 2 _ := hr
    have hu := hr.units
    refine ⟨_, (pss_cons (ps_if (pt_not (pt_val (pe_has TR g hr1 (by rfl) (pa_cons (pv 1) pa_nil)))) (pss_one (ps_ret pe_bl)) pss_nil)
      (pss_cons (ps_asg (pv 1) (pg_tup rfl (pgs_cons (pg_name (i := 2) scCo.nd rfl (.inl rfl)) (pgs_cons (pg_name (i := 3) scCo.nd rfl (.inl rfl)) (pgs_cons (pg_name (i := 4) scCo.nd rfl (.inl rfl)) pgs_nil)))))
      (pss_one (ps_ret (pe_and (pe_has EN g hr2 (by rfl) (pa_cons (pv 0) (pa_cons (pv 2) pa_nil))) (pe_and (pe_has EN g hr2 (by rfl) (pa_cons (pv 0) (pa_cons (pv 3) pa_nil))) (pe_and (pe_cmpR (op_neD hu) (pv 2) (pv 3) (nomark _)) (pe_one (pe_has IT g hr1 (by rfl) (pa_cons (pv 4) pa_nil)))))))))), ?_⟩
    refine ⟨_, rfl, rfl, rfl, t, _, _, _, rfl, et, fun H1 s1 => ⟨_, rfl, ?_⟩⟩
    refine iteF ?_
    refine ⟨_, rfl, t, _, rfl, SqT.of (s1 _ _ et), rfl, _, _, rfl, _, _, rfl, _, _, rfl, rfl, ?_⟩
    refine ⟨_, rfl, _, rfl, rfl, rfl, r.1, G, gs, rfl, hq.same s1, gr.one, fun H2 s2 => ⟨true, rfl, ?_⟩⟩
    refine ⟨_, rfl, _, rfl, rfl, rfl, r.2.1, G, gs, rfl, (hq.same s1).same s2, gr.two, fun H3 s3 => ⟨true, rfl, ?_⟩⟩
    refine ⟨_, rfl, _, rfl, oD r.1, oD r.2.1, dp_o _, dp_o _, shaped_o GG _ gr.one, shaped_o GG _ gr.two, true, congrArg V.bl ?_, ?_⟩
    · rw [eqv_o, decide_eq_false gr.ne]
      rfl
    · exact ⟨_, rfl, rfl, rfl, r.2.2, rfl, fun H4 s4 => q H4 (((s1.trans s2).trans s3).trans s4)⟩
theorem ok_cg {f : Addr} {fd : FuncData} (F : Fun K "_check_goods" "_check_goods" sCg f fd) (T : Bi mg) (LS : Has P w K mg base "is_list" 1 ["value"] (spLs K)) (GD : Has P w K mg base "is_good" 2 ["value"] spNm) :
    FnG P w K mg base CX0 3 f fd ["goods"] (spCg K) := by
  refine okG F scCg (fun vs H Q E h => ?_) (fun cdv A out s H vs Q E g hr h => ?_)
  · obtain ⟨G, gs, rfl, _⟩ := h
    rfl
  · obtain ⟨G, gs, rfl, hq, GG, q⟩ := h
    have hr1 : Room 1 _ := hr.mono (by decide)
    have hu := hr.units
    refine ⟨_, (pss_cons (ps_if (PW.pt (pw_or (pt_not (pt_val (pe_has LS g hr1 (by rfl) (pa_cons (pv 0) pa_nil)))) (pw_or1 (pt_cmpR op_eq (pe_callB call_len_seq (by rfl) T.len PySem.boot_len (pa_cons (pv 0) pa_nil)) pe_int (nomark _))))) (pss_one ps_never) pss_nil)
      (pss_cons (ps_set (i := 1) scCg.nd rfl (.inl rfl) pe_dnewK)
      (pss_one (ps_for PassesOwn.never rfl (pi_enumA (by rfl) T.enumerate (pa_cons (pv 0) pa_nil)) (pg_tup rfl (pgs_cons (pg_name (i := 2) scCg.nd rfl (.inl rfl)) (pgs_cons (pg_name (i := 3) scCg.nd rfl (.inl rfl)) pgs_nil)))
      (pss_cons (ps_if (PW.pt (pw_or (pt_not (pt_val (pe_has GD g hr (by rfl) (pa_cons (pv 3) pa_nil)))) (pw_or1 (pt_cmp (pc_din (hu_of hr) (pv 3) (pv 1)))))) (pss_one ps_never) pss_nil)
      (pss_one (ps_dput (hu_of hr) (pv 1) (pv 3) pe_bl rfl))))))), ?_⟩
    refine ⟨_, rfl, rfl, rfl, G, _, rfl, hq, fun H1 s1 => ⟨_, rfl, ?_⟩⟩
    refine iteF ?_
    refine ⟨_, rfl, G, _, rfl, hq.same s1, rfl, _, rfl, ?_⟩
    have l1 := GG.l1
    have l2 := GG.l2
    rw [decide_eq_false (by intro z; injection z with z; rw [List.length_map] at z; omega)]
    refine iteF ?_
    intro d nd
    have nd0 : H d = none := s1.free nd
    refine ⟨_, rfl, G, gs.map V.str, rfl, ?_⟩
    refine for_enum hq (same_new s1 nd) (fun i σ' H' => ∃ p q, σ' = [some (.ref G), some (.ref d), p, q] ∧ Same H H' ∧ H' d = some (.dK (dKs (gs.take i)))) ⟨_, _, rfl, same_new s1 nd, upd_same⟩ (fun i σ' H' ⟨_, _, _, z, _⟩ => z) ?_ ?_
    · rintro i x σ' H2 H' hi ⟨p1, q1, rfl, s2, e2⟩ ⟨Tp, y, rfl, nT, rfl, hy⟩
      obtain ⟨x, hx, rfl⟩ := get_map hy
      have hT : Same H2 (upd H2 Tp (.tup [.int (i : Nat), .str x])) := same_new (Same.refl' _) nT
      refine ⟨Tp, _, rfl, SqT.of upd_same, rfl, _, _, rfl, _, _, rfl, rfl, ?_⟩
      refine ⟨_, rfl, rfl, rfl, x, rfl, GG.sub x (List.mem_of_getElem? hx), fun H3 s3 => ⟨_, rfl, ?_⟩⟩
      refine iteF ?_
      have e3 : H3 d = some (.dK (dKs (gs.take i))) := s3 _ _ (hT _ _ e2)
      have nx := nodup_at GG.nd hx
      refine ⟨_, rfl, _, rfl, d, _, rfl, DGet.k (k := Sum.inr x) e3, _, rfl, ?_⟩
      rw [dks_none nx]
      refine iteF ?_
      refine ⟨_, rfl, _, rfl, d, _, rfl, DPut.k (k := Sum.inr x) e3 (by unfold dKs; rw [List.length_map, List.length_take]; exact small1000 (by omega)), ?_⟩
      refine ⟨_, _, rfl, fun a o e => ?_, ?_⟩
      · rw [upd_ne (ne_of_none e nd0)]
        exact s3 _ _ (hT _ _ (s2 _ _ e))
      · rw [upd_same, dks_put nx, take_more hx]
    · rintro σ' H' ⟨_, _, rfl, z, _⟩
      exact q H' z
theorem ok_cc {f : Addr} {fd : FuncData} (F : Fun K "_check_conditions" "_check_conditions" sCc f fd) (T : Bi mg) (LS : Has P w K mg base "is_list" 1 ["value"] (spLs K)) (CO : Has P w K mg base "_is_condition" 3 ["goods", "value"] (spCo K)) :
    FnG P w K mg base CX0 4 f fd ["goods", "conditions"] (spCc K) := by
  refine okG F scCc (fun vs H Q E h => ?_) (fun cdv A out s H vs Q E g hr h => ?_)
  · obtain ⟨G, R, gs, rs, as, rfl, _⟩ := h
    rfl
  · obtain ⟨G, R, gs, rs, as, rfl, hq, hR, rows, GG, good, q⟩ := h
    have hr1 : Room 1 _ := hr.mono (by decide)
    refine ⟨_, (pss_cons (ps_if (pt_not (pt_val (pe_has LS g hr1 (by rfl) (pa_cons (pv 1) pa_nil)))) (pss_one ps_never) pss_nil)
      (pss_one (ps_for PassesOwn.never rfl (pi_enumA (by rfl) T.enumerate (pa_cons (pv 1) pa_nil)) (pg_tup rfl (pgs_cons (pg_name (i := 2) scCc.nd rfl (.inl rfl)) (pgs_cons (pg_name (i := 3) scCc.nd rfl (.inl rfl)) pgs_nil)))
      (pss_one (ps_if (pt_not (pt_val (pe_has CO g hr (by rfl) (pa_cons (pv 0) (pa_cons (pv 3) pa_nil))))) (pss_one ps_never) pss_nil))))), ?_⟩
    refine ⟨_, rfl, rfl, rfl, R, _, rfl, hR, fun H1 s1 => ⟨_, rfl, ?_⟩⟩
    refine iteF ?_
    refine ⟨_, rfl, R, as.map V.ref, rfl, ?_⟩
    refine for_enum hR s1 (fun i σ' H' => ∃ p q, σ' = [some (.ref G), some (.ref R), p, q] ∧ Same H H') ⟨_, _, rfl, s1⟩ (fun i σ' H' ⟨_, _, _, z⟩ => z) ?_ ?_
    · rintro i x σ' H2 H' hi ⟨p1, q1, rfl, s2⟩ ⟨Tp, y, rfl, nT, rfl, hy⟩
      obtain ⟨t, r, rfl, er, et⟩ := rows_at (rows_same rows s2) hy
      have hT : Same H2 (upd H2 Tp (.tup [.int (i : Nat), .ref t])) := same_new (Same.refl' _) nT
      refine ⟨Tp, _, rfl, SqT.of upd_same, rfl, _, _, rfl, _, _, rfl, rfl, ?_⟩
      refine ⟨_, rfl, _, rfl, rfl, rfl, t, G, gs, r, rfl, hT _ _ et, (hq.same s2).same hT, GG, good r (List.mem_of_getElem? er), fun H3 s3 => ⟨_, rfl, ?_⟩⟩
      refine iteF ?_
      exact ⟨_, _, rfl, (s2.trans hT).trans s3⟩
    · rintro σ' H' ⟨_, _, rfl, z⟩
      exact q H' z
end
end KM

set_option Elab.async false
set_option linter.all false
set_option maxRecDepth 100000
set_option maxHeartbeats 4000000
namespace KM
open PySem PySem.Spec PyProof.Rows L2 GL
open StX (pa_star)
/-! the class -/
abbrev mth (i : Nat) : Stmt := inClass (top 45) i
/-- what is so of the class and the file's constants -/
structure Cf (K : PySem.W.Frag) (mg : Str → Option Value) (C : Addr) : Prop where
  gM : mg "Moves" = some (.ref C)
  cl : Cls K C
  nG : NoAttr K C "_goods"
  nK : NoAttr K C "_conditions"
  hc : PySem.W.findIn K (.ref C) "__class__" = some (some (.builtin "object.__class__"))
  hn : PySem.W.specialIn K (.builtin "object.__class__") "__get__" = some (some (.builtin "getset_descriptor.__get__"))
  ht : PySem.W.takesIn K (.builtin "object.__class__") = some true
  hm : PySem.W.mroIn K C (.type "object") = some true
  kl : PySem.W.kitOne K (.type "list") (.ref C) = some false
  kt : PySem.W.kitOne K (.type "tuple") (.ref C) = some false
  kn : PySem.W.kitOne K (.type "NoneType") (.ref C) = some false
  ki : PySem.W.kitOne K (.type "int") (.ref C) = some false
  ks : PySem.W.kitOne K (.type "str") (.ref C) = some false
  c4 : ∃ t, mg "MOST_GOODS" = some (.int 4 t)
  c24 : ∃ t, mg "MOST_CONDITIONS" = some (.int 24 t)
theorem kit_own {K : PySem.W.Frag} {C : Addr} : PySem.W.kitOne K (.ref C) (.ref C) = some true := by
  unfold PySem.W.kitOne
  rw [if_pos (by simp)]
theorem lk_g (g c : Addr) : (flds g c).lookup ("_goods" : Str) = some (V.ref g) := by
  unfold flds
  rw [lookup_putF, if_neg (by decide), lookup_putF, if_pos rfl]
theorem lk_c (g c : Addr) : (flds g c).lookup ("_conditions" : Str) = some (V.ref c) := by
  unfold flds
  rw [lookup_putF, if_pos rfl]
section
variable {P : Program} {w : World} {K : PySem.W.Frag} {mg : Str → Option Value} {base : Heap} {C : Addr}
abbrev nSelf : List Str := ["self"]
theorem scGoods : FnScope nSelf ["self"] (defScope (mth 1)) := ⟨rfl, rfl, rfl, by decide +kernel, rfl, by decide +kernel, by decide +kernel⟩
theorem scConds : FnScope nSelf ["self"] (defScope (mth 2)) := ⟨rfl, rfl, rfl, by decide +kernel, rfl, by decide +kernel, by decide +kernel⟩
theorem scEqq : FnScope ["self", "other"] ["self", "other"] (defScope (mth 8)) := ⟨rfl, rfl, rfl, by decide +kernel, rfl, by decide +kernel, by decide +kernel⟩
theorem scRepr : FnScope nSelf ["self"] (defScope (mth 9)) := ⟨rfl, rfl, rfl, by decide +kernel, rfl, by decide +kernel, by decide +kernel⟩
theorem scInit : FnScope ["self", "goods", "conditions"] ["self", "goods", "conditions"] (defScope (mth 0)) := ⟨rfl, rfl, rfl, by decide +kernel, rfl, by decide +kernel, by decide +kernel⟩
theorem ok_goods {f : Addr} {fd : FuncData} (F : Fun K "goods" "Moves.goods" (mth 1) f fd) (T : Bi mg) (F4 : Cf K mg C) : FnG P w K mg base CX0 1 f fd ["self"] (spGoods C) := by
  refine okG F scGoods (fun vs H Q E h => ?_) (fun cdv A out s H vs Q E g hr h => ?_)
  · obtain ⟨m, gs, rs, rfl, _⟩ := h
    rfl
  · obtain ⟨m, gs, rs, rfl, ⟨dx, gg, c, as, e1, e2, e3, e4⟩, q⟩ := h
    refine ⟨_, (pss_one (ps_ret (pe_callTy call_listL (by rfl) T.list (by decide +kernel) (pa_cons (pe_fld (pv 0) rfl) pa_nil)))), ?_⟩
    exact ⟨_, rfl, m, C, dx, _, _, rfl, e1, F4.cl, F4.nG, lk_g gg c, gg, _, rfl, .inl (SqL.of e2), q⟩
theorem ok_conds {f : Addr} {fd : FuncData} (F : Fun K "conditions" "Moves.conditions" (mth 2) f fd) (T : Bi mg) (F4 : Cf K mg C) : FnG P w K mg base CX0 1 f fd ["self"] (spConds C) := by
  refine okG F scConds (fun vs H Q E h => ?_) (fun cdv A out s H vs Q E g hr h => ?_)
  · obtain ⟨m, gs, rs, rfl, _⟩ := h
    rfl
  · obtain ⟨m, gs, rs, rfl, ⟨dx, gg, c, as, e1, e2, e3, e4⟩, q⟩ := h
    refine ⟨_, (pss_one (ps_ret (pe_callTy call_listL (by rfl) T.list (by decide +kernel) (pa_cons (pe_fld (pv 0) rfl) pa_nil)))), ?_⟩
    exact ⟨_, rfl, m, C, dx, _, _, rfl, e1, F4.cl, F4.nK, lk_c gg c, c, _, rfl, .inl (SqL.of e3), fun L H1 n e s1 => q L as H1 n e (rows_same e4 s1) s1⟩
theorem ok_repr {f : Addr} {fd : FuncData} (F : Fun K "__repr__" "Moves.__repr__" (mth 9) f fd) (T : Bi mg) (F4 : Cf K mg C) : FnG P w K mg base CX0 1 f fd ["self"] (spRepr C) := by
  refine okG F scRepr (fun vs H Q E h => ?_) (fun cdv A out s H vs Q E g hr h => ?_)
  · obtain ⟨m, gs, rs, rfl, _⟩ := h
    rfl
  · obtain ⟨m, gs, rs, rfl, ⟨dx, gg, c, as, e1, e2, e3, e4⟩, fit, q⟩ := h
    have hu := hr.units
    refine ⟨_, (pss_one (ps_ret (pe_joined (.cons pe_str (.cons (pe_fmtD g hu (pe_fld (pv 0) rfl)) (.cons pe_str (.cons (pe_fmtD g hu (pe_fld (pv 0) rfl)) (.cons pe_str .nil)))))))), ?_⟩
    have sg := sh_gs fit.g
    have sr := sh_rows fit.g fit.r
    have lg := sg.len
    have lr := sr.len
    have fn := fit.n
    have l1 : ("Moves(" : Str).length = 6 := rfl
    have l2 : (", " : Str).length = 2 := rfl
    have l3 : (")" : Str).length = 1 := rfl
    have l0 : (Str.empty).length = 0 := rfl
    have sz := sizeLine_eq
    have k0 : Str.empty ++ ("Moves(" : Str) = ("Moves(" : Str) := rfl
    refine ⟨_, rfl, by rw [k0]; omega, ?_⟩
    rw [k0]
    refine ⟨_, rfl, m, C, dx, _, _, rfl, e1, F4.cl, F4.nG, lk_g gg c, gg, gsD gs, rfl, dp_gs (SqL.of e2), sg.shows (by decide) (by decide), _, rfl, by rw [Str.length_append]; omega, ?_⟩
    refine ⟨_, rfl, by rw [Str.length_append, Str.length_append]; omega, ?_⟩
    refine ⟨_, rfl, m, C, dx, _, _, rfl, e1, F4.cl, F4.nK, lk_c gg c, c, rowsD rs, rfl, dp_rows e4 (SqL.of e3), sr.shows (by omega) (by decide), _, rfl, by simp only [Str.length_append]; omega, ?_⟩
    refine ⟨_, rfl, by simp only [Str.length_append]; omega, ?_⟩
    exact q H (Same.refl' _)
theorem ok_eq {f : Addr} {fd : FuncData} (F : Fun K "__eq__" "Moves.__eq__" (mth 8) f fd) (T : Bi mg) (F4 : Cf K mg C) : FnG P w K mg base CX0 1 f fd ["self", "other"] (spEq K C) := by
  refine okG F scEqq (fun vs H Q E h => ?_) (fun cdv A out s H vs Q E g hr h => ?_)
  · obtain ⟨m, gs, rs, y, rfl, _⟩ := h
    rfl
  · obtain ⟨m, gs, rs, y, rfl, ⟨dx, gg, c, as, e1, e2, e3, e4⟩, fit, q⟩ := h
    have hu := hr.units
    refine ⟨_, (pss_one (ps_ret (pe_and (pe_callB call_isi (by rfl) T.isinstance (by decide +kernel) (pa_cons (pv 1) (pa_cons (pe_glob (v := .ref C) (by rfl) F4.gM rfl) pa_nil))) (pe_and (pe_cmpR (op_eqD hu) (pe_fld (pv 0) rfl) (pe_fld (pv 1) rfl) (nomark _)) (pe_one (pe_cmpR (op_eqD hu) (pe_fld (pv 0) rfl) (pe_fld (pv 1) rfl) (nomark _))))))), ?_⟩
    rcases q with ⟨m2, gs2, rs2, rfl, ⟨dx2, gg2, c2, as2, f1, f2, f3, f4⟩, fit2, q⟩ | ⟨hy, q⟩
    · refine ⟨_, rfl, .ref m2, .ref C, .ref C, .ref C, true, rfl, .own C, .base (.ins f1 F4.cl F4.hc F4.hn F4.ht F4.hm), kit_own, true, rfl, ?_⟩
      refine ⟨_, rfl, m, C, dx, _, _, rfl, e1, F4.cl, F4.nG, lk_g gg c, _, rfl, m2, C, dx2, _, _, rfl, f1, F4.cl, F4.nG, lk_g gg2 c2, gsD gs, gsD gs2, dp_gs (SqL.of e2), dp_gs (SqL.of f2), shaped_gs fit.g, shaped_gs fit2.g, ?_⟩
      rw [eqv_gs]
      by_cases hg : gs = gs2
      · refine ⟨true, congrArg V.bl (decide_eq_true hg), ?_⟩
        refine ⟨_, rfl, m, C, dx, _, _, rfl, e1, F4.cl, F4.nK, lk_c gg c, _, rfl, m2, C, dx2, _, _, rfl, f1, F4.cl, F4.nK, lk_c gg2 c2, rowsD rs, rowsD rs2, dp_rows e4 (SqL.of e3), dp_rows f4 (SqL.of f3), shaped_rows fit.g fit.r, shaped_rows fit2.g fit2.r, ?_⟩
        rw [eqv_rows]
        have z := q H (Same.refl' _)
        have e : decide (gs = gs2 ∧ rs = rs2) = decide (rs = rs2) := by simp [hg]
        rw [e] at z
        exact z
      · refine ⟨false, congrArg V.bl (decide_eq_false hg), ?_⟩
        have z := q H (Same.refl' _)
        have e : decide (gs = gs2 ∧ rs = rs2) = false := decide_eq_false fun w => hg w.1
        rw [e] at z
        exact z
    · obtain ⟨t, ht, kt⟩ : ∃ t, TyX K H y t ∧ PySem.W.kitOne K t (.ref C) = some false := by
        rcases hy with ⟨a, xs, rfl, ea | ea⟩ | rfl | ⟨i, rfl⟩ | ⟨z, rfl⟩
        · exact ⟨_, .base (.lst ea), F4.kl⟩
        · exact ⟨_, .base (.tup ea), F4.kt⟩
        · exact ⟨_, .base .non, F4.kn⟩
        · exact ⟨_, .base (.int i), F4.ki⟩
        · exact ⟨_, .base (.str z), F4.ks⟩
      exact ⟨_, rfl, y, .ref C, t, .ref C, false, rfl, .own C, ht, kt, false, rfl, q H (Same.refl' _)⟩
/-! making, changing -/
theorem Sq.ins {H : Hp} {a x dx : Addr} {xs : List V} {fs : List (Str × V)} {o : HO} (h : Sq K H a xs) (e : H x = some (.ins C dx fs)) : Sq K (upd H x o) a xs := by
  have k : ∀ {u : HO}, H a = some u → a ≠ x ∨ u = .ins C dx fs := fun {u} z => by
    by_cases q : a = x
    · subst q
      rw [e] at z
      exact .inr (Option.some.inj z).symm
    · exact .inl q
  rcases h with ((h | ⟨u, h⟩) | h) | ((h | ⟨u, h⟩) | h)
  · rcases k h with n | n
    · exact .inl (.inl (.inl (by rw [upd_ne n]; exact h)))
    · cases n
  · rcases k h with n | n
    · exact .inl (.inl (.inr ⟨u, by rw [upd_ne n]; exact h⟩))
    · cases n
  · exact .inl (.inr h)
  · rcases k h with n | n
    · exact .inr (.inl (.inl (by rw [upd_ne n]; exact h)))
    · cases n
  · rcases k h with n | n
    · exact .inr (.inl (.inr ⟨u, by rw [upd_ne n]; exact h⟩))
    · cases n
  · exact .inr (.inr h)
theorem rows_ins {H : Hp} {x dx : Addr} {fs : List (Str × V)} {o : HO} {as : List Addr} {rs : List Row} (h : RowsIn H as rs) (e : H x = some (.ins C dx fs)) : RowsIn (upd H x o) as rs :=
  rows_keep h fun t xs z => by rw [upd_ne (ne_of z e (by intro q; cases q))]; exact z
theorem MovesNew.back {H Hc H' : Hp} {m : Addr} {gs : List Str} {rs : List Row} (h : MovesNew C Hc H' m gs rs) (s : Same H Hc) : MovesNew C H H' m gs rs := by
  obtain ⟨dx, g, c, as, e1, e2, e3, e4, n1, n2⟩ := h
  exact ⟨dx, g, c, as, e1, e2, e3, e4, s.free n1, s.free n2⟩
theorem ok_init {f T0 : Addr} {fd : FuncData} (F : FunD K "__init__" "Moves.__init__" (defArgs (mth 0)) (defBody (mth 0)) (defScope (mth 0)) [.ref T0] [] f fd) (T : Bi mg) (F4 : Cf K mg C)
    (CG : Has P w K mg base "_check_goods" 3 ["goods"] (spCg K)) (CC : Has P w K mg base "_check_conditions" 4 ["goods", "conditions"] (spCc K)) :
    FnG P w K mg base CX0 5 f fd ["self", "goods", "conditions"] (spInit K C) := by
  obtain ⟨t4, h4⟩ := F4.c4
  obtain ⟨t24, h24⟩ := F4.c24
  refine okGD F scInit (fun vs H Q E h => ?_) (fun cdv A out s H vs Q E g hr h => ?_)
  · obtain ⟨x, dx, G, D, gs, as, rs, rfl, _⟩ := h
    rfl
  · obtain ⟨x, dx, G, D, gs, as, rs, rfl, hx, hG, hD, rows, GG, good, len, q⟩ := h
    have hr3 : Room 3 _ := hr.mono (by decide)
    have hr4i : Room 4 _ := hr
    have hG' : Sq K H G (gs.map V.str) := hG
    have hD' : Sq K H D (as.map V.ref) := hD
    have la : (as.map V.ref).length = rs.length := by rw [List.length_map]; exact Paired.length rows
    refine ⟨_, (pss_cons (ps_expr (pe_has CG g hr3 (by rfl) (pa_cons (pv 1) pa_nil)))
      (pss_cons (ps_expr (pe_has CC g hr4i (by rfl) (pa_cons (pv 1) (pa_cons (pv 2) pa_nil))))
      (pss_cons (ps_if (pt_cmpR op_gt (pe_callB call_len_seq (by rfl) T.len PySem.boot_len (pa_cons (pv 1) pa_nil)) (pe_glob (v := .int 4) (by rfl) h4 ⟨_, rfl⟩) (nomark _)) (pss_one L2.ps_never) pss_nil)
      (pss_cons (ps_if (pt_cmpR op_gt (pe_callB call_len_seq (by rfl) T.len PySem.boot_len (pa_cons (pv 2) pa_nil)) (pe_glob (v := .int 24) (by rfl) h24 ⟨_, rfl⟩) (nomark _)) (pss_one L2.ps_never) pss_nil)
      (pss_cons (ps_fld (pv 0) (pe_callB call_sortLT (by rfl) T.sorted (by decide +kernel) (pa_cons (pv 1) pa_nil)) rfl)
      (pss_one (ps_fld (pv 0) (pe_callTy call_listL (by rfl) T.list (by decide +kernel) (pa_cons (pv 2) pa_nil)) rfl))))))), ?_⟩
    refine ⟨_, rfl, rfl, rfl, G, gs, rfl, hG', GG, fun H1 s1 => ?_⟩
    refine ⟨_, rfl, _, rfl, rfl, rfl, G, D, gs, rs, as, rfl, hG'.same s1, hD'.same s1, rows_same rows s1, GG, good, fun H2 s2 => ?_⟩
    have s12 := s1.trans s2
    have l2 := GG.l2
    refine ⟨_, rfl, G, _, rfl, hG'.same s12, _, _, rfl, rfl, _, rfl, ?_⟩
    refine ite2 (fun c => absurd (of_decide_eq_true c) (by rw [List.length_map]; omega)) (fun _ => ?_)
    refine ⟨_, rfl, D, _, rfl, hD'.same s12, _, _, rfl, rfl, _, rfl, ?_⟩
    refine ite2 (fun c => absurd (of_decide_eq_true c) (by rw [la]; omega)) (fun _ => ?_)
    refine ⟨_, rfl, G, gs, rfl, hG'.same s12, by omega, fun ys p1 p2 g1 H3 n3 e3 s3 => ?_⟩
    have s13 := s12.trans s3
    have hx3 := s13 _ _ hx
    refine ⟨_, rfl, x, C, dx, _, rfl, hx3, F4.cl, F4.nG, by show 0 < 1000; decide, ?_⟩
    have hx4 : (upd H3 x (.ins C dx (putF "_goods" (.ref g1) []))) x = some (.ins C dx (putF "_goods" (.ref g1) [])) := upd_same
    refine ⟨_, rfl, D, _, rfl, (hD'.same s13).ins hx3, fun c1 H4 n4 e4 s4 => ?_⟩
    refine ⟨_, rfl, x, C, dx, _, rfl, s4 _ _ hx4, F4.cl, F4.nK, by show 1 < 1000; decide, ?_⟩
    have ng : g1 ≠ x := ne_of e3 hx3 (by intro z; cases z)
    have nc : c1 ≠ x := ne_some n4 hx4
    have n4' : H3 c1 = none := by rw [upd_ne nc] at n4; exact n4
    refine q ys _ p1 p2 ⟨dx, g1, c1, as, upd_same, ?_, ?_, ?_, s12.free n3, s13.free n4'⟩ fun a o na e => ?_
    · rw [upd_ne ng]
      refine s4 _ _ ?_
      rw [upd_ne ng]
      exact e3
    · rw [upd_ne nc]
      exact e4
    · exact rows_ins (rows_same (rows_ins (rows_same rows s13) hx3) s4) (s4 _ _ hx4)
    · rw [upd_ne na]
      refine s4 _ _ ?_
      rw [upd_ne na]
      exact s13 _ _ e
end
end KM

set_option Elab.async false
set_option linter.all false
set_option maxRecDepth 100000
set_option maxHeartbeats 4000000
namespace KM
open PySem PySem.Spec PyProof.Rows L2 GL
/-! tables of sums as dicts of pairs; changes as dicts of places -/
abbrev Pt := Option Str
def kO (a : Pt) : NK := a.map Sum.inr
theorem nV_kO (a : Pt) : nV (kO a) = oV a := by cases a <;> rfl
theorem kO_inj {a b : Pt} (h : kO a = kO b) : a = b := by
  cases a with
  | none => cases b with
    | none => rfl
    | some y => cases h
  | some x => cases b with
    | none => cases h
    | some y =>
      have : (Sum.inr x : L2.Key) = Sum.inr y := Option.some.inj h
      injection this with e
      rw [e]
theorem pair_inj {a b c d : Pt} (h : [kO a, kO b] = [kO c, kO d]) : a = c ∧ b = d := by
  injection h with h1 h2
  injection h2 with h2 _
  exact ⟨kO_inj h1, kO_inj h2⟩
theorem pair_vs (a b : Pt) : ([kO a, kO b] : List NK).map nV = [oV a, oV b] := by
  show [nV (kO a), nV (kO b)] = _
  rw [nV_kO, nV_kO]
/-- the dict at a holds the sums of f, at most n of them -/
structure TabK (kvs : List (List NK × V)) (f : KN.Tab Pt) (n : Nat) : Prop where
  len : kvs.length ≤ n
  val : ∀ x y, valV kvs [kO x, kO y] = (f x y).map V.int
  ent : ∀ p ∈ kvs, ∃ x y i, p = ([kO x, kO y], V.int i)
  nd : (kvs.map (·.1)).Nodup
def TabAt (P : Program) (w : World) (H : Hp) (a : Addr) (f : KN.Tab Pt) (n : Nat) : Prop := ∃ kvs, PD P w H a kvs ∧ TabK kvs f n
theorem TabK.put {kvs : List (List NK × V)} {f : KN.Tab Pt} {n : Nat} (h : TabK kvs f n) (x y : Pt) (s : Int) : TabK (putK kvs [kO x, kO y] (.int s)) (f.put x y s) (n + 1) where
  len := Nat.le_trans (length_putK kvs _ _) (Nat.succ_le_succ h.len)
  val := fun u v => by
    rw [valV_put]
    unfold KN.Tab.put
    by_cases e : u = x ∧ v = y
    · obtain ⟨rfl, rfl⟩ := e
      rw [if_pos rfl, if_pos ⟨rfl, rfl⟩]
      rfl
    · rw [if_neg (fun z => e (pair_inj z)), if_neg e]
      exact h.val u v
  ent := fun p hp => by
    unfold putK at hp
    split at hp
    · obtain ⟨q, hq, rfl⟩ := List.mem_map.mp hp
      split
      · rename_i e
        exact ⟨x, y, s, by rw [e]⟩
      · exact h.ent q hq
    · rcases List.mem_append.mp hp with hp | hp
      · exact h.ent p hp
      · exact ⟨x, y, s, List.mem_singleton.mp hp⟩
  nd := by
    cases e : valV kvs [kO x, kO y] with
    | none => exact nd_putK (κ := List NK) _ h.nd e
    | some v =>
      have z : putK kvs [kO x, kO y] (.int s) = kvs.map fun kv => if kv.1 = [kO x, kO y] then (kv.1, V.int s) else kv := by
        unfold putK
        rw [valV_any, e]
        rfl
      rw [z, List.map_map]
      have e2 : ((fun q : List NK × V => q.1) ∘ fun kv : List NK × V => if kv.1 = [kO x, kO y] then (kv.1, V.int s) else kv) = (fun q => q.1) := by
        funext q
        show (if q.1 = [kO x, kO y] then (q.1, V.int s) else q).1 = q.1
        split <;> rfl
      rw [e2]
      exact h.nd
theorem TabK.empty : TabK [] (fun _ _ => none) 0 where
  len := Nat.le_refl _
  val := fun _ _ => rfl
  ent := fun _ hp => nomatch hp
  nd := .nil
theorem TabK.mono {kvs : List (List NK × V)} {f : KN.Tab Pt} {n m : Nat} (h : TabK kvs f n) (l : n ≤ m) : TabK kvs f m := ⟨Nat.le_trans h.len l, h.val, h.ent, h.nd⟩
section
variable {P : Program} {w : World} {H H' : Hp} {a b p : Addr} {f : KN.Tab Pt} {n m : Nat}
theorem TabAt.same (h : TabAt P w H a f n) (s : Same H H') : TabAt P w H' a f n := by
  obtain ⟨kvs, e, k⟩ := h
  exact ⟨kvs, pd_same e s, k⟩
theorem TabAt.but {zs : List V} (h : TabAt P w H a f n) (bt : But p H H') (ne : a ≠ p) (e : H p = some (.lst zs)) : TabAt P w H' a f n := by
  obtain ⟨kvs, pd, k⟩ := h
  exact ⟨kvs, pd_but pd bt ne e (fun ys z => by cases z), k⟩
theorem TabAt.ne {o : HO} (h : TabAt P w H a f n) (e : H p = some o) (no : ∀ φ, o ≠ .ext φ) : a ≠ p := by
  obtain ⟨kvs, ⟨xs, e1, _⟩, _⟩ := h
  exact ne_of e1 e fun z => no _ z.symm
/-- a table that is no list is not the one that is changed -/
theorem TabAt.lst {zs : List V} (h : TabAt P w H a f n) (bt : But p H H') (e : H p = some (.lst zs)) : TabAt P w H' a f n :=
  h.but bt (h.ne e fun φ z => by cases z) e
theorem TabAt.mono (h : TabAt P w H a f n) (l : n ≤ m) : TabAt P w H a f m := by
  obtain ⟨kvs, pd, k⟩ := h
  exact ⟨kvs, pd, k.mono l⟩
theorem TabAt.get {x y : Pt} (h : TabAt P w H a f n) (e : H b = some (.tup [oV x, oV y])) : OGet P w H a (.ref b) ((f x y).map V.int) := by
  obtain ⟨kvs, pd, k⟩ := h
  exact .inr ⟨kvs, [kO x, kO y], b, pd, rfl, by rw [pair_vs]; exact e, (k.val x y).symm⟩
theorem TabAt.put {x y : Pt} {s : Int} {R : Hp → Prop} (h : TabAt P w H a f n) (e : H b = some (.tup [oV x, oV y])) (l : n < 1000) (r : ∀ H', TabAt P w H' a (f.put x y s) (n + 1) → But a H H' → R H') :
    OPut P w H a (.ref b) (.int s) R := by
  obtain ⟨kvs, pd, k⟩ := h
  exact .inr ⟨kvs, [kO x, kO y], b, pd, rfl, by rw [pair_vs]; exact e, small1000 (Nat.le_of_lt (Nat.lt_of_le_of_lt k.len l)), fun H' pd' bt => r H' ⟨_, pd', k.put x y s⟩ bt⟩
theorem TabAt.free (h : TabAt P w H a f n) : ∃ o, H a = some o := by
  obtain ⟨kvs, ⟨xs, e1, _⟩, _⟩ := h
  exact ⟨_, e1⟩
end
/-- == of two such dicts -/
theorem valV_mem {κ : Type} [DecidableEq κ] : ∀ {kvs : List (κ × V)} {k : κ} {v : V}, (kvs.map (·.1)).Nodup → (k, v) ∈ kvs → valV kvs k = some v
  | [], _, _, _, h => nomatch h
  | q :: r, k, v, nd, h => by
    have nd' := List.nodup_cons.mp nd
    rcases List.mem_cons.mp h with e | h
    · subst e
      exact valV_pos rfl
    · by_cases c : q.1 = k
      · exact absurd (List.mem_map.mpr ⟨(k, v), h, c.symm⟩) nd'.1
      · rw [valV_neg c]
        exact valV_mem nd'.2 h
theorem mem_valV {κ : Type} [DecidableEq κ] : ∀ {kvs : List (κ × V)} {k : κ} {v : V}, valV kvs k = some v → (k, v) ∈ kvs
  | [], _, _, h => nomatch h
  | q :: r, k, v, h => by
    by_cases c : q.1 = k
    · rw [valV_pos c] at h
      have := Option.some.inj h
      subst c this
      exact List.mem_cons_self ..
    · rw [valV_neg c] at h
      exact List.mem_cons_of_mem _ (mem_valV h)
theorem tabs_eq {ks ls : List (List NK × V)} {f g : KN.Tab Pt} {n m : Nat} (hk : TabK ks f n) (hl : TabK ls g m) :
    (ks.length == ls.length && ks.all fun p => decide (valV ls p.1 = some p.2)) = true ↔ ∀ x y, f x y = g x y := by
  rw [Bool.and_eq_true, beq_iff_eq, List.all_eq_true]
  have up : (∀ p ∈ ks, decide (valV ls p.1 = some p.2) = true) ↔ ∀ x y s, f x y = some s → g x y = some s := by
    constructor
    · intro h x y s e
      have v : valV ks [kO x, kO y] = some (.int s) := by rw [hk.val, e]; rfl
      have z := of_decide_eq_true (h _ (mem_valV v))
      dsimp only at z
      rw [hl.val] at z
      cases q : g x y with
      | none => rw [q] at z; cases z
      | some t =>
        rw [q] at z
        have z : some (V.int t) = some (V.int s) := z
        cases z
        rfl
    · intro h p hp
      obtain ⟨x, y, i, rfl⟩ := hk.ent p hp
      refine decide_eq_true ?_
      have v := valV_mem hk.nd hp
      rw [hk.val] at v
      dsimp only
      rw [hl.val]
      cases q : f x y with
      | none => rw [q] at v; cases v
      | some t =>
        rw [q] at v
        have v : some (V.int t) = some (V.int i) := v
        cases v
        rw [h x y _ q]
        rfl
  rw [up]
  have sub : ∀ {ks ls : List (List NK × V)} {f g : KN.Tab Pt} {n m : Nat}, TabK ks f n → TabK ls g m → (∀ x y s, f x y = some s → g x y = some s) → ∀ k ∈ ks.map (·.1), k ∈ ls.map (·.1) := by
    intro ks ls f g n m hk hl h k q
    obtain ⟨p, hp, rfl⟩ := List.mem_map.mp q
    obtain ⟨x, y, i, rfl⟩ := hk.ent p hp
    have v := valV_mem hk.nd hp
    rw [hk.val] at v
    cases q2 : f x y with
    | none => rw [q2] at v; cases v
    | some t =>
      have z := h x y t q2
      have v2 : valV ls [kO x, kO y] = some (.int t) := by rw [hl.val, z]; rfl
      exact List.mem_map.mpr ⟨_, mem_valV v2, rfl⟩
  constructor
  · rintro ⟨len, h⟩ x y
    cases q : f x y with
    | some s => exact (h x y s q).symm
    | none =>
      cases q2 : g x y with
      | none => rfl
      | some t =>
        exfalso
        have v2 : valV ls [kO x, kO y] = some (.int t) := by rw [hl.val, q2]; rfl
        have m2 : [kO x, kO y] ∈ ls.map (·.1) := List.mem_map.mpr ⟨_, mem_valV v2, rfl⟩
        have n2 : [kO x, kO y] ∉ ks.map (·.1) := fun z => by
          obtain ⟨⟨k, v⟩, hp, e⟩ := List.mem_map.mp z
          have v3 := valV_mem hk.nd hp
          dsimp only at e
          rw [e, hk.val, q] at v3
          cases v3
        have c := KN.len_of_nodup (l := [kO x, kO y] :: ks.map (·.1)) (V := ls.map (·.1)) (List.nodup_cons.mpr ⟨n2, hk.nd⟩) fun z hz => by
          rcases List.mem_cons.mp hz with rfl | hz
          · exact m2
          · exact sub hk hl h z hz
        simp only [List.length_cons, List.length_map] at c
        omega
  · intro h
    refine ⟨?_, fun x y s e => (h x y).symm.trans e⟩
    have c1 := KN.len_of_nodup hk.nd (sub hk hl fun x y s e => (h x y).symm.trans e)
    have c2 := KN.len_of_nodup hl.nd (sub hl hk fun x y s e => (h x y).trans e)
    simp only [List.length_map] at c1 c2
    omega
/-! changes: a dict of all places -/
def ChgK (V0 : List Pt) (f : Pt → Int) : List (NK × V) := V0.map fun p => (kO p, V.int (f p))
theorem chg_val {V0 : List Pt} {f : Pt → Int} : ∀ {p : Pt}, p ∈ V0 → valV (ChgK V0 f) (kO p) = some (.int (f p)) := by
  induction V0 with
  | nil => intro p h; cases h
  | cons a r ih =>
    intro p h
    by_cases e : p = a
    · subst e
      exact valV_pos rfl
    · have h' := (List.mem_cons.mp h).resolve_left e
      have : ¬ kO a = kO p := fun z => e (kO_inj z).symm
      exact (valV_neg (κ := NK) (p := (kO a, V.int (f a))) this).trans (ih h')
theorem chg_put {V0 : List Pt} {f : Pt → Int} {p : Pt} {s : Int} (h : p ∈ V0) : putK (ChgK V0 f) (kO p) (.int s) = ChgK V0 (fun q => if q = p then s else f q) := by
  unfold putK
  rw [valV_any, chg_val h]
  show (ChgK V0 f).map _ = _
  unfold ChgK
  rw [List.map_map]
  refine List.map_congr_left fun q hq => ?_
  show (if kO q = kO p then (kO q, V.int s) else (kO q, V.int (f q))) = _
  by_cases e : q = p
  · subst e
    simp
  · rw [if_neg (fun z => e (kO_inj z))]
    simp [e]
end KM

set_option Elab.async false
set_option linter.all false
set_option maxRecDepth 100000
set_option maxHeartbeats 4000000
namespace KM
open PySem PySem.Spec PyProof.Rows L2 GL
open StX (pa_star)
/-! Chains -/
abbrev chm (i : Nat) : Stmt := inClass (top 3) i
/-- what is so of the class -/
structure Ch (K : PySem.W.Frag) (mg : Str → Option Value) (D : Addr) : Prop where
  gC : mg "Chains" = some (.ref D)
  cl : Cls K D
  nP : NoAttr K D "_places"
  nK : NoAttr K D "_conditions"
  nM : NoAttr K D "_many"
  nS : NoAttr K D "_least_sums"
def cfl (pl cs : Addr) (n : Int) (ls : Addr) : List (Str × V) := putF "_least_sums" (.ref ls) (putF "_many" (.int n) (putF "_conditions" (.ref cs) (putF "_places" (.ref pl) [])))
theorem cfl_p {pl cs ls : Addr} {n : Int} : (cfl pl cs n ls).lookup ("_places" : Str) = some (V.ref pl) := by
  unfold cfl
  rw [lookup_putF, if_neg (by decide), lookup_putF, if_neg (by decide), lookup_putF, if_neg (by decide), lookup_putF, if_pos rfl]
theorem cfl_c {pl cs ls : Addr} {n : Int} : (cfl pl cs n ls).lookup ("_conditions" : Str) = some (V.ref cs) := by
  unfold cfl
  rw [lookup_putF, if_neg (by decide), lookup_putF, if_neg (by decide), lookup_putF, if_pos rfl]
theorem cfl_m {pl cs ls : Addr} {n : Int} : (cfl pl cs n ls).lookup ("_many" : Str) = some (V.int n) := by
  unfold cfl
  rw [lookup_putF, if_neg (by decide), lookup_putF, if_pos rfl]
theorem cfl_s {pl cs ls : Addr} {n : Int} : (cfl pl cs n ls).lookup ("_least_sums" : Str) = some (V.ref ls) := by
  unfold cfl
  rw [lookup_putF, if_pos rfl]
theorem cfl_o {pl cs ls : Addr} {n : Int} {m : Str} (h1 : ¬ m = "_least_sums") (h2 : ¬ m = "_many") (h3 : ¬ m = "_conditions") (h4 : ¬ m = "_places") : (cfl pl cs n ls).lookup m = none := by
  unfold cfl
  rw [lookup_putF, if_neg h1, lookup_putF, if_neg h2, lookup_putF, if_neg h3, lookup_putF, if_neg h4]
  rfl
def pts (gs : List Str) : List Pt := none :: gs.map some
theorem pts_len (gs : List Str) : (pts gs).length = gs.length + 1 := by simp [pts]
theorem in_pts {gs : List Str} {a : Pt} (h : ∀ x, a = some x → x ∈ gs) : a ∈ pts gs := by
  cases a with
  | none => exact List.mem_cons_self ..
  | some x => exact List.mem_cons_of_mem _ (List.mem_map.mpr ⟨x, h x rfl, rfl⟩)
theorem good_in {gs : List Str} {rs : List Row} (h : GoodRows gs rs) : KN.In (pts gs) rs := fun r hr => ⟨in_pts (h r hr).one, in_pts (h r hr).two⟩
/-- the object, ls being its list of tables -/
structure ChObj (D : Addr) (H : Hp) (c pl cs ls : Addr) (gs : List Str) (rs : List Row) : Prop where
  ob : ∃ dx, H c = some (.ins D dx (cfl pl cs (gs.length + 1 : Nat) ls))
  pl : H pl = some (.lst ((pts gs).map oV))
  cs : ∃ as, H cs = some (.lst (as.map V.ref)) ∧ RowsIn H as rs
theorem ChObj.same {D : Addr} {H H' : Hp} {c pl cs ls : Addr} {gs : List Str} {rs : List Row} (h : ChObj D H c pl cs ls gs rs) (s : Same H H') : ChObj D H' c pl cs ls gs rs := by
  obtain ⟨⟨dx, e1⟩, e2, as, e3, e4⟩ := h
  exact ⟨⟨dx, s _ _ e1⟩, s _ _ e2, as, s _ _ e3, rows_same e4 s⟩
theorem same_but {H H1 H2 : Hp} {d : Addr} (s : Same H H1) (b : But d H1 H2) (n : H d = none) : Same H H2 := fun a o e => b _ _ (ne_of_none e n) (s _ _ e)
theorem oV_at {l : List Pt} {j : Nat} {x : V} (h : (l.map oV)[j]? = some x) : ∃ p, l[j]? = some p ∧ x = oV p := get_map h
def spLg (P : Program) (w : World) (D : Addr) : Sp := fun vs H Q _ => ∃ (c t pl cs ls : Addr) (gs : List Str) (rs : List Row) (k : Nat) (f : KN.Tab Pt), vs = [.ref c, .ref t] ∧ ChObj D H c pl cs ls gs rs ∧ gs.length ≤ 4 ∧ GoodRows gs rs ∧ rs.length ≤ 25 ∧
  TabAt P w H t f 200 ∧ KN.Exact rs (pts gs) k f ∧ ∀ d f' H', H d = none → TabAt P w H' d f' 200 → KN.Exact rs (pts gs) (k + 1) f' → Same H H' → Q (.ref d) H'
abbrev nLg : List Str := ["self", "sums", "told", "one", "other", "most", "last", "total"]
theorem scLg : FnScope nLg ["self", "sums"] (defScope (chm 1)) := ⟨rfl, rfl, rfl, by decide +kernel, rfl, by decide +kernel, by decide +kernel⟩
section
variable {P : Program} {w : World} {K : PySem.W.Frag} {mg : Str → Option Value} {base : Heap} {D : Addr}
theorem ok_longer {f : Addr} {fd : FuncData} (F : Fun K "_longer" "Chains._longer" (chm 1) f fd) (T : Bi mg) (C : Ch K mg D) : FnG P w K mg base CX0 1 f fd ["self", "sums"] (spLg P w D) := by
  refine okG F scLg (fun vs H Q E h => ?_) (fun cdv A out s H vs Q E g hr h => ?_)
  · obtain ⟨c, t, pl, cs, ls, gs, rs, k, f, rfl, _⟩ := h
    rfl
  · obtain ⟨c, t, pl, cs, ls, gs, rs, k, f, rfl, ho, lg, good, lr, ht, hx, q⟩ := h
    have hu : ∀ X : Cx, X.A.units + 64 < cLine → X.A.units + 1 < cLine := fun _ h => by omega
    have hu64 := hr.units
    refine ⟨_, (pss_cons (ps_set (i := 2) scLg.nd rfl (.inl rfl) pe_pnew)
      (pss_cons (ps_for PassesOwn.never rfl (pi_list (pe_fld (pv 0) rfl)) (pg_tup rfl (pgs_cons (pg_name (i := 3) scLg.nd rfl (.inl rfl)) (pgs_cons (pg_name (i := 4) scLg.nd rfl (.inl rfl)) (pgs_cons (pg_name (i := 5) scLg.nd rfl (.inl rfl)) pgs_nil))))
      (pss_one (ps_for PassesOwn.never rfl (pi_list (pe_fld (pv 0) rfl)) (pg_name (i := 6) scLg.nd rfl (.inl rfl))
      (pss_one (ps_if (pt_cmp (pc_oin (by have := hr.units; exact Nat.lt_of_le_of_lt (Nat.add_le_add_left (by decide) _) this) (pe_tupL (pa_cons (pv 4) (pa_cons (pv 6) pa_nil))) (pv 1))) (pss_cons (ps_set (i := 7) scLg.nd rfl (.inl rfl) (pe_op op_add (pv 5) (pe_oget (by have := hr.units; exact Nat.lt_of_le_of_lt (Nat.add_le_add_left (by decide) _) this) (pv 1) (pe_tupL (pa_cons (pv 4) (pa_cons (pv 6) pa_nil))) (fun _ _ => rfl))))
      (pss_one (ps_if (PW.pt (pw_or (pt_cmp (pc_onotin (by have := hr.units; exact Nat.lt_of_le_of_lt (Nat.add_le_add_left (by decide) _) this) (pe_tupL (pa_cons (pv 3) (pa_cons (pv 6) pa_nil))) (pv 2))) (pw_or1 (pt_cmpR op_lt (pv 7) (pe_oget (by have := hr.units; exact Nat.lt_of_le_of_lt (Nat.add_le_add_left (by decide) _) this) (pv 2) (pe_tupL (pa_cons (pv 3) (pa_cons (pv 6) pa_nil))) (fun _ _ => rfl)) (nomark _))))) (pss_one (ps_oput (by have := hr.units; exact Nat.lt_of_le_of_lt (Nat.add_le_add_left (by decide) _) this) (pv 2) (pe_tupL (pa_cons (pv 3) (pa_cons (pv 6) pa_nil))) (pv 7) rfl)) pss_nil))) pss_nil)))))
      (pss_one (ps_ret (pv 2))))), ?_⟩
    intro d H1 nd1 td1 s1
    obtain ⟨dx, eo⟩ := ho.ob
    obtain ⟨as, ec, ra⟩ := ho.cs
    have td0 : TabAt P w H1 d (fun _ _ => none) 0 := ⟨[], td1, TabK.empty⟩
    refine ⟨_, rfl, c, D, dx, _, _, rfl, s1 _ _ eo, C.cl, C.nK, cfl_c, cs, rfl, ⟨_, SqL.of (s1 _ _ ec)⟩, ?_⟩
    refine for_list (K := K) (a := cs) (xs := as.map V.ref) (fun i σ' H' => ∃ x3 x4 x5 x6 x7, σ' = [some (.ref c), some (.ref t), some (.ref d), x3, x4, x5, x6, x7] ∧ Same H H' ∧
      ∃ f', TabAt P w H' d f' (i * 5) ∧ KN.Lg rs f f' (fun x y => x ∈ rs.take i ∧ y ∈ pts gs)) ?_ ?_ ?_ ?_
    · exact ⟨_, _, _, _, _, rfl, s1, _, td0, KN.Lg.start.weaken fun x y h => by simp at h⟩
    · rintro i σ' H' _ ⟨_, _, _, _, _, rfl, s2, _⟩
      exact SqL.of (s2 _ _ ec)
    · rintro i x σ' H2 hi ⟨_, _, _, _, _, rfl, s2, f2, t2, g2⟩
      obtain ⟨tr, r, rfl, er, et⟩ := rows_at (rows_same ra s2) hi
      refine ⟨tr, _, rfl, SqT.of et, rfl, _, _, rfl, _, _, rfl, _, _, rfl, rfl, ?_⟩
      refine ⟨_, rfl, c, D, dx, _, _, rfl, s2 _ _ eo, C.cl, C.nP, cfl_p, pl, rfl, ⟨_, SqL.of (s2 _ _ ho.pl)⟩, ?_⟩
      have lrs := lr
      have ilt : i < rs.length := by
        have := (List.getElem?_eq_some_iff.mp er).1
        exact this
      have rmem : (r.1, r.2.1, r.2.2) ∈ rs := List.mem_of_getElem? er
      refine for_list (K := K) (a := pl) (xs := (pts gs).map oV) (fun j σ' H' => ∃ x6 x7, σ' = [some (.ref c), some (.ref t), some (.ref d), some (oV r.1), some (oV r.2.1), some (.int r.2.2), x6, x7] ∧ Same H H' ∧
        ∃ f', TabAt P w H' d f' (i * 5 + j) ∧ KN.Lg rs f f' (fun x y => (x ∈ rs.take i ∧ y ∈ pts gs) ∨ (x = r ∧ y ∈ (pts gs).take j))) ?_ ?_ ?_ ?_
      · exact ⟨_, _, rfl, s2, f2, t2, g2.weaken fun x y h => h.elim id fun z => by simp at z⟩
      · rintro j σ' H' _ ⟨_, _, rfl, s3, _⟩
        exact SqL.of (s3 _ _ ho.pl)
      · rintro j x σ' H3 hj ⟨_, _, rfl, s3, f3, t3, g3⟩
        obtain ⟨b, hb, rfl⟩ := oV_at hj
        have jlt : j < (pts gs).length := (List.getElem?_eq_some_iff.mp hb).1
        rw [pts_len] at jlt
        have next : ∀ f', KN.Lg rs f f' (fun x y => ((x ∈ rs.take i ∧ y ∈ pts gs) ∨ (x = r ∧ y ∈ (pts gs).take j)) ∨ (x = (r.1, r.2.1, r.2.2) ∧ y = b)) →
            KN.Lg rs f f' (fun x y => (x ∈ rs.take i ∧ y ∈ pts gs) ∨ (x = r ∧ y ∈ (pts gs).take (j + 1))) := fun f' h => h.weaken fun x y z => by
          rcases z with z | ⟨rfl, z⟩
          · exact .inl (.inl z)
          · rw [take_more hb] at z
            rcases List.mem_append.mp z with z | z
            · exact .inl (.inr ⟨rfl, z⟩)
            · exact .inr ⟨rfl, List.mem_singleton.mp z⟩
        -- (other, last) in sums
        refine ⟨_, rfl, _, rfl, by show 2 ≤ sizeLine; decide, fun t1 H4 n4 e4 s4 => ?_⟩
        have S4 := s3.trans s4
        refine ⟨_, rfl, t, _, rfl, (ht.same S4).get e4, _, rfl, ?_⟩
        cases hf : f r.2.1 b with
        | none =>
          refine iteF ?_
          exact ⟨_, _, rfl, S4, f3, (t3.same s4).mono (by omega), next _ (g3.skip hf)⟩
        | some s0 =>
          refine iteT ?_
          refine ⟨_, rfl, _, rfl, _, rfl, _, rfl, by show 2 ≤ sizeLine; decide, fun t2' H5 n5 e5 s5 => ?_⟩
          have S5 := S4.trans s5
          refine ⟨t, _, rfl, by rw [← show ((some s0 : Option Int).map V.int) = some (V.int s0) from rfl, ← hf]; exact (ht.same S5).get e5, _, _, rfl, rfl, ?_⟩
          refine ⟨_, rfl, _, rfl, by show 2 ≤ sizeLine; decide, fun t3' H6 n6 e6 s6 => ?_⟩
          have S6 := S5.trans s6
          have t6 : TabAt P w H6 d f3 (i * 5 + j) := ((t3.same s4).same s5).same s6
          have store : ∀ (En : L2.Ends) (H7 : Hp), Same H6 H7 → (∀ s, f3 r.1 b = some s → r.2.2 + s0 < s) →
              (∀ H9, Same H H9 → (∃ f', TabAt P w H9 d f' (i * 5 + (j + 1)) ∧ KN.Lg rs f f' (fun x y => (x ∈ rs.take i ∧ y ∈ pts gs) ∨ (x = r ∧ y ∈ (pts gs).take (j + 1)))) →
                En.nx [some (.ref c), some (.ref t), some (.ref d), some (oV r.1), some (oV r.2.1), some (.int r.2.2), some (oV b), some (.int (r.2.2 + s0))] H9) →
              sOPut P w (tVar 2) (tTupL (tCons (tVar 3) (tCons (tVar 6) tNil))) (tVar 7) En
                [some (.ref c), some (.ref t), some (.ref d), some (oV r.1), some (oV r.2.1), some (.int r.2.2), some (oV b), some (.int (r.2.2 + s0))] H7 := by
            intro En H7 s7 low go
            refine ⟨_, rfl, _, rfl, _, rfl, _, rfl, by show 2 ≤ sizeLine; decide, fun t4' H8 n8 e8 s8 => ⟨d, rfl, ?_⟩⟩
            refine ((t6.same s7).same s8).put e8 (by omega) fun H9 t9 b9 => go H9 (same_but (S6.trans (s7.trans s8)) b9 nd1) ⟨_, t9, next _ (g3.put rmem hf low)⟩
          refine ⟨_, rfl, d, _, rfl, t6.get e6, ?_⟩
          cases h3 : f3 r.1 b with
          | none =>
            refine ⟨true, rfl, iteT (iteT (store _ H6 (Same.refl' _) (fun s e => by rw [h3] at e; cases e) fun H9 s9 z => ⟨_, _, rfl, s9, z⟩))⟩
          | some s' =>
            refine ⟨false, rfl, iteF ?_⟩
            refine ⟨_, rfl, _, rfl, _, rfl, _, rfl, by show 2 ≤ sizeLine; decide, fun t5' H7 n7 e7 s7 => ?_⟩
            refine ⟨d, _, rfl, by rw [← show ((some s' : Option Int).map V.int) = some (V.int s') from rfl, ← h3]; exact (t6.same s7).get e7, _, _, rfl, rfl, ?_⟩
            refine ⟨_, rfl, ?_⟩
            refine ite2 (fun c0 => ?_) (fun c0 => ?_)
            · exact store _ H7 s7 (fun s e => by rw [h3] at e; cases e; exact of_decide_eq_true c0) fun H9 s9 z => ⟨_, _, rfl, s9, z⟩
            · exact ⟨_, _, rfl, S6.trans s7, f3, (t6.same s7).mono (by omega), next _ (g3.keep hf h3 fun z => c0 (decide_eq_true z))⟩
      · rintro σ' H4 ⟨_, _, rfl, s4, f4, t4, g4⟩
        rw [List.length_map, pts_len] at t4
        rw [List.length_map, List.take_of_length_le (Nat.le_refl _)] at g4
        refine ⟨_, _, _, _, _, rfl, s4, f4, t4.mono (by omega), g4.weaken fun x y z => ?_⟩
        rw [take_more er] at z
        rcases List.mem_append.mp z.1 with m | m
        · exact .inl ⟨m, z.2⟩
        · exact .inr ⟨List.mem_singleton.mp m, z.2⟩
    · rintro σ' H5 ⟨_, _, _, _, _, rfl, s5, f5, t5, g5⟩
      have la : (as.map V.ref).length = rs.length := by rw [List.length_map]; exact Paired.length ra
      rw [la] at t5 g5
      rw [List.take_of_length_le (Nat.le_refl _)] at g5
      exact ⟨_, rfl, q d f5 H5 nd1 (t5.mono (by omega)) (g5.done (good_in good) hx fun c hc b hb => ⟨hc, hb⟩) s5⟩
end
end KM

set_option Elab.async false
set_option linter.all false
set_option maxRecDepth 100000
set_option maxHeartbeats 4000000
namespace KM
open PySem PySem.Spec PyProof.Rows L2 GL
open StX (pa_star)
/-! Chains, made -/
theorem oc_walk {P : Program} {w : World} {J : It} {n : Nat} {G : Hp → Prop} {Y : Nat → Hp → V → Hp → Prop} (wk : Walk J n G Y) {D : Addr} {σ : L2.St} {vs : List Nat} {g : TG} {tt : TT} {tk tv : TE} {H2 : Hp} {Q : Hp → Prop} (Pv : Nat → Hp → Prop) (h0 : Pv 0 H2)
    (hG : ∀ i H, i ≤ n → Pv i H → G H) (hs : ∀ i x H H', i < n → Pv i H → Y i H x H' → OcTurn P w D σ vs g tt tk tv x H' (Pv (i + 1))) (hd : ∀ H, Pv n H → Q H) :
    ∃ Wl : Nat → Nat → Hp → Prop, (∃ m, Wl 0 m H2) ∧ ∀ i m H, Wl i m H →
    (J.stop i H ∧ Q H) ∨ (J.go i H ∧ ∃ Nx : Hp → Prop, (∀ H', Nx H' → ∃ m', m' < m ∧ Wl (i + 1) m' H') ∧ ∀ x H', J.yld i H x H' → OcTurn P w D σ vs g tt tk tv x H' Nx) := by
  refine ⟨fun i m H => m = n - i ∧ i ≤ n ∧ Pv i H, ⟨n, by omega, by omega, h0⟩, ?_⟩
  rintro i m H ⟨rfl, hi, p⟩
  by_cases e : i = n
  · subst e
    exact .inl ⟨wk.stops H (hG _ _ hi p), hd H p⟩
  · have lt : i < n := by omega
    exact .inr ⟨wk.goes i H lt (hG _ _ hi p), Pv (i + 1), fun H' p' => ⟨n - (i + 1), by omega, rfl, by omega, p'⟩, fun x H' y => hs i x H H' lt p (wk.yields i H x H' lt (hG _ _ hi p) y)⟩
abbrev nCi : List Str := ["self", "goods", "conditions", "place", "_"]
theorem scCi : FnScope nCi ["self", "goods", "conditions"] (defScope (chm 0)) := ⟨rfl, rfl, rfl, by decide +kernel, rfl, by decide +kernel, by decide +kernel⟩
/-- tables one after another -/
def Tabs (P : Program) (w : World) (H : Hp) (ts : List Addr) (gs : List Str) (rs : List Row) : Prop := ∀ k t, ts[k]? = some t → ∃ f, TabAt P w H t f 200 ∧ KN.Exact rs (pts gs) k f
theorem Tabs.same {P : Program} {w : World} {H H' : Hp} {ts : List Addr} {gs : List Str} {rs : List Row} (h : Tabs P w H ts gs rs) (s : Same H H') : Tabs P w H' ts gs rs := fun k t e => by
  obtain ⟨f, a, b⟩ := h k t e
  exact ⟨f, a.same s, b⟩
/-- Chains as they stand -/
def ChAt (P : Program) (w : World) (D : Addr) (H : Hp) (c : Addr) (gs : List Str) (rs : List Row) : Prop :=
  ∃ pl cs ls ts, ChObj D H c pl cs ls gs rs ∧ H ls = some (.lst (ts.map V.ref)) ∧ ts.length = gs.length + 2 ∧ Tabs P w H ts gs rs
theorem ChAt.same {P : Program} {w : World} {D : Addr} {H H' : Hp} {c : Addr} {gs : List Str} {rs : List Row} (h : ChAt P w D H c gs rs) (s : Same H H') : ChAt P w D H' c gs rs := by
  obtain ⟨pl, cs, ls, ts, a, b, l, t⟩ := h
  exact ⟨pl, cs, ls, ts, a.same s, s _ _ b, l, t.same s⟩
def spCi (P : Program) (w : World) (D : Addr) : Sp := fun vs H Q _ => ∃ (x dx G R : Addr) (gs : List Str) (rs : List Row) (as : List Addr), vs = [.ref x, .ref G, .ref R] ∧ H x = some (.ins D dx []) ∧ H G = some (.lst (gs.map V.str)) ∧ H R = some (.lst (as.map V.ref)) ∧
  RowsIn H as rs ∧ GoodGs gs ∧ GoodRows gs rs ∧ rs.length ≤ 25 ∧ ∀ H', ChAt P w D H' x gs rs → But x H H' → Q .non H'
/-- the first table: 0 from each place to itself -/
def tab0 (l : List Pt) : KN.Tab Pt := fun x y => if x = y ∧ x ∈ l then some 0 else none
theorem tab0_put {l : List Pt} {p : Pt} : (tab0 l).put p p 0 = tab0 (l ++ [p]) := by
  funext x y
  unfold KN.Tab.put tab0
  by_cases e : x = p ∧ y = p
  · obtain ⟨rfl, rfl⟩ := e
    rw [if_pos ⟨rfl, rfl⟩, if_pos ⟨rfl, by simp⟩]
  · rw [if_neg e]
    by_cases q : x = y
    · subst q
      have n : ¬ x = p := fun z => e ⟨z, z⟩
      simp [n]
    · rw [if_neg (fun z => q z.1), if_neg (fun z => q z.1)]
theorem tab0_exact {rs : List Row} {gs : List Str} : KN.Exact rs (pts gs) 0 (tab0 (pts gs)) := .zero fun a b s => by
  unfold tab0
  by_cases q : a = b ∧ a ∈ pts gs
  · rw [if_pos q]
    exact ⟨fun z => ⟨q.2, q.1, (Option.some.inj z).symm⟩, fun z => by rw [z.2.2]⟩
  · rw [if_neg q]
    exact ⟨fun z => (nomatch z), fun z => absurd ⟨z.2.1, z.1⟩ q⟩
section
variable {P : Program} {w : World} {K : PySem.W.Frag} {mg : Str → Option Value} {base : Heap} {D : Addr}
theorem ok_chinit {f : Addr} {fd : FuncData} (F : Fun K "__init__" "Chains.__init__" (chm 0) f fd) (T : Bi mg) (C : Ch K mg D) (LG : HasM P w K mg base D "_longer" 1 ["self", "sums"] (spLg P w D)) :
    FnG P w K mg base CX0 2 f fd ["self", "goods", "conditions"] (spCi P w D) := by
  refine okG F scCi (fun vs H Q E h => ?_) (fun cdv A out s H vs Q E g hr h => ?_)
  · obtain ⟨x, dx, G, R, gs, rs, as, rfl, _⟩ := h
    rfl
  · obtain ⟨x, dx, G, R, gs, rs, as, rfl, hx, hG, hR, rows, GG, good, lr, q⟩ := h
    have hr1 : Room 1 _ := hr
    have l2 := GG.l2
    refine ⟨_, (pss_cons (ps_fld (pv 0) (pe_lstL (pa_cons pe_non (pa_star (pv 1) pa_nil))) rfl)
      (pss_cons (ps_fld (pv 0) (pv 2) rfl)
      (pss_cons (ps_fld (pv 0) (pe_callB call_len_seq (by rfl) T.len PySem.boot_len (pa_cons (pe_fld (pv 0) rfl) pa_nil)) rfl)
      (pss_cons (ps_fld (pv 0) (pe_lstL (pa_cons (pe_oc ⟨rfl, scCi.nd, (pi_list (pe_fld (pv 0) rfl)), blkOk_by (own := [("place", 3)]) (N := nCi) (sc := defScope (chm 0)) (by decide +kernel), (fun _ _ _ _ _ => pg_name (i := 3) scCi.nd rfl (.inl rfl)), (fun _ _ _ _ _ => pts_nil), (fun _ _ _ _ _ => by exact (pe_tupL (pa_cons (pv 3) (pa_cons (pv 3) pa_nil)))), (fun _ _ _ _ _ => by exact pe_int), (fun _ => rfl), hr.units0⟩ starts_p) pa_nil)) rfl)
      (pss_one (ps_for PassesOwn.never rfl (pi_range1 (by rfl) T.range (pa_cons (pe_fld (pv 0) rfl) pa_nil)) (pg_name (i := 4) scCi.nd rfl (.inl rfl))
      (pss_one (ps_expr (pe_bm PySem.F.plainAttrs_list PySem.F.slot_list_append PySem.F.type_list_append mt_appL (pe_fld (pv 0) rfl) (pa_cons (pe_hasM (n := 1) LG C.cl g hr1 rfl (pv 0) (pa_cons (pe_ix ix_list (pe_fld (pv 0) rfl) (pe_un un_neg pe_int) (fun _ _ => rfl)) pa_nil)) pa_nil)))))))))), ?_⟩
    -- places
    refine ⟨_, rfl, G, _, rfl, .inr (SqL.of hG), by rw [List.length_cons, List.length_append, List.length_map]; exact Nat.le_of_lt (small1000 (by show gs.length + 0 + 1 ≤ 1000; omega)), fun pl H1 n1 e1 s1 => ?_⟩
    have hx1 := s1 _ _ hx
    have npx : pl ≠ x := ne_some n1 hx
    have ePl : V.non :: (gs.map V.str ++ []) = (pts gs).map oV := by
      rw [List.append_nil]
      unfold pts
      rw [List.map_cons, List.map_map]
      rfl
    rw [ePl] at e1
    refine ⟨_, rfl, x, D, dx, _, rfl, hx1, C.cl, C.nP, by show 0 < 1000; decide, ?_⟩
    refine mk_upd fun H2 x2 b2 => ?_
    refine ⟨_, rfl, _, rfl, x, D, dx, _, rfl, x2, C.cl, C.nK, by show 1 < 1000; decide, ?_⟩
    refine mk_upd fun H3 x3 b3 => ?_
    have b13 : But x H H3 := ((But.of s1).trans b2).trans b3
    have ep3 : H3 pl = some (.lst ((pts gs).map oV)) := b3 _ _ npx (b2 _ _ npx e1)
    refine ⟨_, rfl, x, D, dx, _, _, rfl, x3, C.cl, C.nP, by rw [lookup_putF, if_neg (by decide), lookup_putF, if_pos rfl], pl, _, rfl, .inl (SqL.of ep3), ?_⟩
    refine ⟨_, rfl, x, D, dx, _, rfl, x3, C.cl, C.nM, by show 2 < 1000; decide, ?_⟩
    refine mk_upd fun H4 x4 b4 => ?_
    have ln : ((pts gs).map oV).length = gs.length + 1 := by rw [List.length_map, pts_len]
    rw [ln] at x4
    have b14 : But x H H4 := b13.trans b4
    have ep4 := b4 _ _ npx ep3
    refine ⟨_, rfl, x, D, dx, _, _, rfl, x4, C.cl, C.nP, by rw [lookup_putF, if_neg (by decide), lookup_putF, if_neg (by decide), lookup_putF, if_pos rfl], pl, rfl, ⟨_, SqL.of ep4⟩, ?_⟩
    intro t0 H5 n5 e5 s5
    refine oc_walk (walk_list (K := K) (a := pl) (xs := (pts gs).map oV)) (fun i H' => Same H4 H' ∧ TabAt P w H' t0 (tab0 ((pts gs).take i)) i) ⟨s5, [], ⟨[], e5, rfl, fun _ z => nomatch z⟩, ?_⟩ (fun i H' _ ⟨z, _⟩ => SqL.of (z _ _ ep4)) ?_ ?_
    · have z : tab0 ((pts gs).take 0) = fun _ _ => none := by
        funext u v
        exact if_neg fun z => by simp at z
      rw [z]
      exact TabK.empty
    · rintro i y H6 H7 hi ⟨s6, t6⟩ ⟨rfl, hy⟩
      obtain ⟨p, hp, rfl⟩ := oV_at hy
      rw [ln] at hi
      refine ⟨rfl, yes_go ?_⟩
      refine ⟨_, rfl, _, rfl, by show 2 ≤ sizeLine; decide, fun t1 H8 n8 e8 s8 => ?_⟩
      refine (t6.same s8).put e8 (by omega) fun H9 t9 b9 => ⟨same_but (s6.trans s8) b9 n5, ?_⟩
      rw [take_more hp, ← tab0_put]
      exact t9
    rintro H6 ⟨s6, t6⟩
    rw [ln, ← pts_len, List.take_length, pts_len] at t6
    refine ⟨by show 1 ≤ sizeLine; decide, fun ls H7 n7 e7 s7 => ?_⟩
    have s47 := s6.trans s7
    refine ⟨_, rfl, x, D, dx, _, rfl, s47 _ _ x4, C.cl, C.nS, by show 3 < 1000; decide, ?_⟩
    refine mk_upd fun H8 x8 b8 => ?_
    have x8 : H8 x = some (.ins D dx (cfl pl R (gs.length + 1 : Nat) ls)) := x8
    have nls : ls ≠ x := ne_some n7 (s6 _ _ x4)
    have e8 := b8 _ _ nls e7
    have b18 : But x H H8 := (b14.trans (But.of s47)).trans b8
    have ho : ChObj D H8 x pl R ls gs rs := by
      refine ⟨⟨dx, x8⟩, b8 _ _ npx (s47 _ _ ep4), as, b18 _ _ (ne_of hR hx (by intro z; cases z)) hR, ?_⟩
      exact rows_keep rows fun t xs e => b18 _ _ (ne_of e hx (by intro z; cases z)) e
    have t8 : TabAt P w H8 t0 (tab0 (pts gs)) (gs.length + 1) := by
      obtain ⟨kvs, pd, kk⟩ := t6.same s7
      exact ⟨kvs, pd_but pd b8 (fun z => by
        obtain ⟨xs, e, _⟩ := pd
        rw [z, s47 _ _ x4] at e
        cases e) (s47 _ _ x4) (fun ys z => by cases z), kk⟩
    have nls0 : H ls = none := by
      cases z : H ls with
      | none => rfl
      | some o =>
        by_cases e : ls = x
        · exact absurd e nls
        · have := s6 _ _ (b14 _ _ e z)
          rw [n7] at this
          cases this
    have t08 : Tabs P w H8 [t0] gs rs := fun k t e => by
      cases k with
      | zero =>
        have e : t0 = t := by simpa using e
        subst e
        exact ⟨_, t8.mono (by omega), tab0_exact⟩
      | succ k => simp at e
    refine ⟨_, rfl, x, D, dx, _, _, rfl, x8, C.cl, C.nM, cfl_m, _, rfl, by omega, by omega, ?_⟩
    refine for_range (n := ((gs.length + 1 : Nat) : Int).toNat) (fun i σ' H' => ∃ p3 p4, σ' = [some (.ref x), some (.ref G), some (.ref R), p3, p4] ∧ ChObj D H' x pl R ls gs rs ∧ But x H H' ∧ ∃ ts : List Addr, H' ls = some (.lst (ts.map V.ref)) ∧ ts.length = i + 1 ∧ Tabs P w H' ts gs rs) ?_ ?_ ?_
    · exact ⟨_, _, rfl, ho, b18, [t0], e8, rfl, t08⟩
    · rintro i σ' H9 hi ⟨_, _, rfl, ho9, b9, ts, els, lts, tt⟩
      obtain ⟨ts0, t, rfl⟩ : ∃ ts0 t, ts = ts0 ++ [t] := ⟨ts.dropLast, ts.getLast (by intro z; rw [z] at lts; simp at lts), (List.dropLast_concat_getLast _).symm⟩
      have l0 : ts0.length = i := by simpa using lts
      obtain ⟨dx9, eo9⟩ := ho9.ob
      obtain ⟨f9, ta9, xa9⟩ := tt i t (by rw [← l0]; simp)
      refine ⟨_, rfl, x, D, dx9, _, _, rfl, eo9, C.cl, C.nS, cfl_s, .inl ⟨rfl, _, SqL.of els⟩, ?_⟩
      refine ⟨_, rfl, x, dx9, _, rfl, eo9, cfl_o (by decide +kernel) (by decide +kernel) (by decide +kernel) (by decide +kernel), ?_⟩
      refine ⟨_, rfl, x, D, dx9, _, _, rfl, eo9, C.cl, C.nS, cfl_s, 1, rfl, ls, _, -1, .ref t, rfl, rfl, SqL.of els, by rw [List.map_append]; exact atI_last _ _, rfl, rfl, ?_⟩
      refine ⟨x, t, pl, R, ls, gs, rs, i, f9, rfl, ho9, l2, good, lr, ta9, xa9, fun d f' H10 nd td xd sd => ?_⟩
      refine ⟨ls, _, .ref d, rfl, rfl, sd _ _ els, by rw [List.length_map]; exact small1000 (by omega), fun H11 e11 b11 => ?_⟩
      refine ⟨_, _, rfl, ?_, ?_, ts0 ++ [t] ++ [d], by rw [e11]; simp, by simp; omega, ?_⟩
      · obtain ⟨⟨dy, o1⟩, o2, as', o3, o4⟩ := ho9.same sd
        have nn : ∀ {a : Addr} {o : HO}, H10 a = some o → (∀ ts : List Addr, o ≠ .lst (ts.map V.ref)) → H11 a = some o := fun {a o} e no => b11 _ _ (ne_of e (sd _ _ els) (no _)) e
        have rR : R ≠ ls := fun z => by rw [z] at hR; rw [nls0] at hR; cases hR
        refine ⟨⟨dy, nn o1 fun _ z => by cases z⟩, nn o2 fun ts z => ?_, as', b11 _ _ rR o3, rows_keep o4 fun t xs e => nn e fun _ z => by cases z⟩
        have z := HO.lst.inj z
        cases ts with
        | nil => cases z
        | cons u v => cases z
      · exact fun a o na e => b11 _ _ (ne_of_none e nls0) (sd _ _ (b9 _ _ na e))
      · intro k u e
        by_cases c : k < (ts0 ++ [t]).length
        · rw [List.getElem?_append_left c] at e
          obtain ⟨f, a, b⟩ := tt k u e
          exact ⟨f, (a.same sd).lst b11 (sd _ _ els), b⟩
        · have c2 : k = (ts0 ++ [t]).length := by
            have := (List.getElem?_eq_some_iff.mp e).1
            simp at this c ⊢
            omega
          subst c2
          have e : d = u := by simpa using e
          subst e
          refine ⟨f', td.lst b11 (sd _ _ els), ?_⟩
          have z : (ts0 ++ [t]).length = i + 1 := by simp [l0]
          rw [z]
          exact xd
    · rintro σ' H9 ⟨_, _, rfl, ho9, b9, ts, els, lts, tt⟩
      exact q H9 ⟨pl, R, ls, ts, ho9, els, by rw [lts]; rfl, tt⟩ b9
end
end KM

set_option Elab.async false
set_option linter.all false
set_option maxRecDepth 100000
set_option maxHeartbeats 4000000
namespace KM
open PySem PySem.Spec PyProof.Rows L2 GL
/-! whether there is a ring -/
abbrev nLl : List Str := ["self", "ends", "many", "most_sum", "place", "last", "told", "total", "left", "position", "one", "other", "most"]
abbrev nRg : List Str := ["self", "many", "position", "one", "other", "most"]
theorem scLl : FnScope nLl ["self", "ends", "many", "most_sum"] (defScope (chm 6)) := ⟨rfl, rfl, rfl, by decide +kernel, rfl, by decide +kernel, by decide +kernel⟩
theorem scRg : FnScope nRg ["self"] (defScope (chm 3)) := ⟨rfl, rfl, rfl, by decide +kernel, rfl, by decide +kernel, by decide +kernel⟩
theorem scHr : FnScope ["self"] ["self"] (defScope (chm 2)) := ⟨rfl, rfl, rfl, by decide +kernel, rfl, by decide +kernel, by decide +kernel⟩
/-- goods and conditions of Chains -/
structure CFit (gs : List Str) (rs : List Row) : Prop where
  g : GoodGs gs
  r : GoodRows gs rs
  n : rs.length ≤ 25
def spLl (P : Program) (w : World) (D : Addr) : Sp := fun vs H Q _ => ∃ (c t : Addr) (gs : List Str) (rs : List Row) (p l : Pt) (m : Nat) (z : Int), vs = [.ref c, .ref t, .int (m : Nat), .int z] ∧ ChAt P w D H c gs rs ∧ CFit gs rs ∧ H t = some (.tup [oV p, oV l]) ∧ p ∈ pts gs ∧
  m ≤ gs.length + 1 ∧ ∀ L H', Same H H' → Q (.ref L) H'
theorem pts_ok {gs : List Str} {p : Pt} (h : p ∈ pts gs) : ∀ x, p = some x → x ∈ gs := by
  rintro x rfl
  rcases List.mem_cons.mp h with e | h
  · cases e
  · obtain ⟨y, hy, e⟩ := List.mem_map.mp h
    cases e
    exact hy
/-- the table at a place of the list, and whether it has a sum -/
theorem tab_at {P : Program} {w : World} {H : Hp} {ts : List Addr} {gs : List Str} {rs : List Row} (tt : Tabs P w H ts gs rs) {k : Nat} (hk : k < ts.length) : ∃ t f, ts[k]? = some t ∧ TabAt P w H t f 200 ∧ KN.Exact rs (pts gs) k f := by
  obtain ⟨f, a, b⟩ := tt k ts[k] (List.getElem?_eq_getElem hk)
  exact ⟨_, f, List.getElem?_eq_getElem hk, a, b⟩
theorem atI_map {ts : List Addr} {k : Nat} {t : Addr} (h : ts[k]? = some t) : atI (ts.map V.ref) ((k : Nat) : Int) = some (.ref t) := by
  obtain ⟨hk, e⟩ := List.getElem?_eq_some_iff.mp h
  unfold atI ixN
  rw [if_pos (by omega), if_pos (by rw [List.length_map]; omega)]
  simp [h]
section
variable {P : Program} {w : World} {K : PySem.W.Frag} {mg : Str → Option Value} {base : Heap} {D : Addr}
theorem ok_ll {f : Addr} {fd : FuncData} (F : Fun K "_least_list" "Chains._least_list" (chm 6) f fd) (T : Bi mg) (C : Ch K mg D) :
    FnG P w K mg base CX0 1 f fd ["self", "ends", "many", "most_sum"] (spLl P w D) := by
  refine okG F scLl (fun vs H Q E h => ?_) (fun cdv A out s H vs Q E g hr h => ?_)
  · obtain ⟨c, t, gs, rs, p, l, m, z, rfl, _⟩ := h
    rfl
  · obtain ⟨c, t, gs, rs, p, l, m, z, rfl, ⟨pl, cs, ls, ts, ho, els, lts, tt⟩, fit, et, hp, hm, q⟩ := h
    obtain ⟨dx, eo⟩ := ho.ob
    obtain ⟨as, ec, ra⟩ := ho.cs
    have hu := hr.units
    have l2 := fit.g.l2
    have lr := fit.n
    have la : (as.map V.ref).length = rs.length := by rw [List.length_map]; exact Paired.length ra
    refine ⟨_, (pss_cons (ps_asg (pv 1) (pg_tup rfl (pgs_cons (pg_name (i := 4) scLl.nd rfl (.inl rfl)) (pgs_cons (pg_name (i := 5) scLl.nd rfl (.inl rfl)) pgs_nil))))
      (pss_cons (ps_par (i := 6) (j := 7) (by rfl) scLl.nd rfl rfl (by decide) rfl rfl (pa_cons (pe_lstL pa_nil) (pa_cons pe_int pa_nil)) (by rfl))
      (pss_cons (ps_for PassesOwn.never rfl (pi_revR (by rfl) T.reversed (prg_1 (by rfl) T.range (pv 2))) (pg_name (i := 8) scLl.nd rfl (.inl rfl))
      (pss_one (ps_for PassesOwn.never rfl (pi_enumA (by rfl) T.enumerate (pa_cons (pe_fld (pv 0) rfl) pa_nil)) (pg_tup rfl (pgs_cons (pg_name (i := 9) scLl.nd rfl (.inl rfl)) (pgs_cons (pg_tup rfl (pgs_cons (pg_name (i := 10) scLl.nd rfl (.inl rfl)) (pgs_cons (pg_name (i := 11) scLl.nd rfl (.inl rfl)) (pgs_cons (pg_name (i := 12) scLl.nd rfl (.inl rfl)) pgs_nil)))) pgs_nil)))
      (pss_one (ps_if (PW.pt (pw_and (pt_cmpR op_lt (pe_op op_add (pe_callB call_len_seq (by rfl) T.len PySem.boot_len (pa_cons (pv 6) pa_nil)) (pv 8)) (pv 2) (nomark _)) (pw_and (pt_cmpR (op_eqD hu) (pv 10) (pv 4) (nomark _)) (pw_and1 (pt_cmp (pc_oin (by have := hr.units; exact Nat.lt_of_le_of_lt (Nat.add_le_add_left (by decide) _) this) (pe_tupL (pa_cons (pv 11) (pa_cons (pv 5) pa_nil))) (pe_ix ix_list (pe_fld (pv 0) rfl) (pv 8) (fun _ _ => rfl)))))))) (pss_one (ps_if (pt_cmpR op_le (pe_op op_add (pe_op op_add (pv 7) (pv 12)) (pe_oget (by have := hr.units; exact Nat.lt_of_le_of_lt (Nat.add_le_add_left (by decide) _) this) (pe_ix ix_list (pe_fld (pv 0) rfl) (pv 8) (fun _ _ => rfl)) (pe_tupL (pa_cons (pv 11) (pa_cons (pv 5) pa_nil))) (fun _ _ => rfl))) (pv 3) (nomark _)) (pss_cons (ps_expr (pe_bm PySem.F.plainAttrs_list PySem.F.slot_list_append PySem.F.type_list_append mt_appL (pv 6) (pa_cons (pv 9) pa_nil)))
      (pss_one (ps_par (i := 4) (j := 7) (by rfl) scLl.nd rfl rfl (by decide) rfl rfl (pa_cons (pv 11) (pa_cons (pe_op op_add (pv 7) (pv 12)) pa_nil)) (by rfl)))) pss_nil)) pss_nil)))))
      (pss_one (ps_ret (pv 6)))))), ?_⟩
    refine ⟨_, rfl, t, _, rfl, SqT.of et, rfl, _, _, rfl, _, _, rfl, rfl, ?_⟩
    refine ⟨by show 0 ≤ sizeLine; decide, fun L H1 nL eL s1 => ⟨_, _, rfl, ?_⟩⟩
    refine ⟨_, rfl, m, rfl, by omega, by omega, by omega, by omega, ?_⟩
    refine for_rangeC (n := ((m : Int) - 0).toNat) (fun i σ' H' => ∃ (p' : Pt) (tot : Int) (x8 x9 x10 x11 x12 : Option V) (xs : List V), σ' = [some (.ref c), some (.ref t), some (.int (m : Nat)), some (.int z), some (oV p'), some (oV l), some (.ref L), some (.int tot), x8, x9, x10, x11, x12] ∧
      p' ∈ pts gs ∧ H' L = some (.lst xs) ∧ xs.length ≤ i * 25 ∧ Same H H') ?_ ?_ ?_
    · exact ⟨p, 0, _, _, _, _, _, [], rfl, hp, eL, Nat.le_refl _, s1⟩
    · rintro i σ' H2 hi ⟨p', tot, x8, x9, x10, x11, x12, xs, rfl, hp', eL2, lx, s2⟩
      refine ⟨_, rfl, c, D, dx, _, _, rfl, s2 _ _ eo, C.cl, C.nK, cfl_c, cs, as.map V.ref, rfl, ?_⟩
      have hil : i < m := by omega
      obtain ⟨tk, fk, hk, tak, _⟩ := tab_at tt (k := m - 1 - i) (by omega)
      refine for_enum (H0 := H) (K := K) (.inl (SqL.of ec)) s2 (fun j σ' H' => ∃ (p' : Pt) (tot : Int) (x9 x10 x11 x12 : Option V) (xs : List V), σ' = [some (.ref c), some (.ref t), some (.int (m : Nat)), some (.int z), some (oV p'), some (oV l), some (.ref L), some (.int tot), some (.int ((m - 1 - i : Nat) : Int)), x9, x10, x11, x12] ∧
        p' ∈ pts gs ∧ H' L = some (.lst xs) ∧ xs.length ≤ i * 25 + j ∧ Same H H') ?_ ?_ ?_ ?_
      · refine ⟨p', tot, x9, x10, x11, x12, xs, ?_, hp', eL2, lx, s2⟩
        have e : (0 : Int) + (((m : Int) - 0).toNat : Nat) - 1 + (i : Nat) * (-1) = ((m - 1 - i : Nat) : Int) := by omega
        rw [← e]
        rfl
      · rintro j σ' H' ⟨_, _, _, _, _, _, _, rfl, _, _, _, s3⟩
        exact s3
      · rintro j x σ' H3 H4 hj ⟨p3, tot3, _, _, _, _, xs3, rfl, hp3, eL3, lx3, s3⟩ ⟨Tp, y, rfl, nT, rfl, hy⟩
        obtain ⟨tr, r, rfl, er, et3⟩ := rows_at (rows_same ra s3) hy
        have hT : Same H3 (upd H3 Tp (.tup [.int (j : Nat), .ref tr])) := same_new (Same.refl' _) nT
        have s4 := s3.trans hT
        have eL4 := hT _ _ eL3
        have eT : (upd H3 Tp (.tup [.int (j : Nat), .ref tr])) Tp = some (.tup [.int (j : Nat), .ref tr]) := upd_same
        have et4 := hT _ _ et3
        generalize upd H3 Tp (.tup [.int (j : Nat), .ref tr]) = H4 at hT s4 eL4 eT et4
        have gr := fit.r r (List.mem_of_getElem? er)
        have pr1 := in_pts gr.one
        have pr2 := in_pts gr.two
        have nx0 : ∀ H', Same H4 H' → ∃ (p' : Pt) (tot : Int) (x9 x10 x11 x12 : Option V) (xs : List V), [some (.ref c), some (.ref t), some (.int (m : Nat)), some (.int z), some (oV p3), some (oV l), some (.ref L), some (.int tot3), some (.int ((m - 1 - i : Nat) : Int)), some (.int (j : Nat)), some (oV r.1), some (oV r.2.1), some (.int r.2.2)] =
            [some (.ref c), some (.ref t), some (.int (m : Nat)), some (.int z), some (oV p'), some (oV l), some (.ref L), some (.int tot), some (.int ((m - 1 - i : Nat) : Int)), x9, x10, x11, x12] ∧ p' ∈ pts gs ∧ H' L = some (.lst xs) ∧ xs.length ≤ i * 25 + (j + 1) ∧ Same H H' :=
          fun H' s' => ⟨p3, tot3, _, _, _, _, xs3, rfl, hp3, s' _ _ eL4, by omega, s4.trans s'⟩
        have jlt : j < rs.length := by rw [la] at hj; exact hj
        have ilt : i < 5 := by omega
        have szl := sizeLine_eq
        refine ⟨Tp, _, rfl, SqT.of eT, rfl, _, _, rfl, _, _, rfl, tr, _, rfl, SqT.of et4, rfl, _, _, rfl, _, _, rfl, _, _, rfl, rfl, rfl, ?_⟩
        refine ⟨_, rfl, L, _, rfl, .inl (SqL.of eL4), _, rfl, _, _, rfl, rfl, _, rfl, _, _, rfl, rfl, _, rfl, ?_⟩
        refine ite2 (fun _ => ?_) (fun _ => iteF (nx0 _ (Same.refl' _)))
        refine ⟨_, rfl, _, rfl, oD r.1, oD p3, dp_o _, dp_o _, shaped_o fit.g _ gr.one, shaped_o fit.g _ (pts_ok hp3), _, rfl, ?_⟩
        refine ite2 (fun _ => ?_) (fun _ => iteF (nx0 _ (Same.refl' _)))
        refine ⟨_, rfl, _, rfl, by show 2 ≤ sizeLine; decide, fun t1 H5 n5 e5 s5 => ?_⟩
        have S5 := s4.trans s5
        refine ⟨_, rfl, c, D, dx, _, _, rfl, S5 _ _ eo, C.cl, C.nS, cfl_s, _, rfl, ls, _, _, _, rfl, rfl, SqL.of (S5 _ _ els), atI_map hk, ?_⟩
        refine ⟨tk, _, rfl, (tak.same S5).get e5, _, rfl, ?_⟩
        cases hf : fk r.2.1 l with
        | none => exact iteF (nx0 _ s5)
        | some s0 =>
          refine iteT ?_
          refine ⟨_, rfl, _, rfl, _, _, rfl, rfl, _, rfl, c, D, dx, _, _, rfl, S5 _ _ eo, C.cl, C.nS, cfl_s, _, rfl, ls, _, _, _, rfl, rfl, SqL.of (S5 _ _ els), atI_map hk, ?_⟩
          refine ⟨_, rfl, _, rfl, by show 2 ≤ sizeLine; decide, fun t2 H6 n6 e6 s6 => ?_⟩
          have S6 := S5.trans s6
          refine ⟨tk, _, rfl, by rw [← show ((some s0 : Option Int).map V.int) = some (V.int s0) from rfl, ← hf]; exact (tak.same S6).get e6, _, _, rfl, rfl, _, rfl, _, _, rfl, rfl, _, rfl, ?_⟩
          refine ite2 (fun _ => ?_) (fun _ => nx0 _ (s5.trans s6))
          have eL6 := s6 _ _ (s5 _ _ eL4)
          refine ⟨_, rfl, .inl ⟨rfl, _, SqL.of eL6⟩, _, rfl, L, xs3, .int (j : Nat), rfl, rfl, eL6, small1000 (by omega), fun H7 e7 b7 => ?_⟩
          refine ⟨_, rfl, _, rfl, _, rfl, _, _, rfl, rfl, _, _, rfl, ?_⟩
          exact ⟨r.2.1, tot3 + r.2.2, _, _, _, _, _, rfl, pr2, e7, by rw [List.length_append]; show xs3.length + 1 ≤ _; omega, same_but S6 b7 nL⟩
      · rintro σ' H3 ⟨p3, tot3, _, _, _, _, xs3, rfl, hp3, eL3, lx3, s3⟩
        exact ⟨p3, tot3, _, _, _, _, _, xs3, rfl, hp3, eL3, by rw [la] at lx3; omega, s3⟩
    · rintro σ' H2 ⟨p', tot, _, _, _, _, _, xs, rfl, hp', eL2, lx, s2⟩
      exact ⟨_, rfl, q L H2 s2⟩
theorem tabs_fun {H : Hp} {ts : List Addr} {gs : List Str} {rs : List Row} (tt : Tabs P w H ts gs rs) : ∃ F : Nat → KN.Tab Pt, ∀ k t, ts[k]? = some t → TabAt P w H t (F k) 200 ∧ KN.Exact rs (pts gs) k (F k) := by
  classical
  refine ⟨fun k => if h : k < ts.length then Classical.choose (tt k ts[k] (List.getElem?_eq_getElem h)) else fun _ _ => none, fun k t e => ?_⟩
  obtain ⟨hk, e'⟩ := List.getElem?_eq_some_iff.mp e
  subst e'
  have z := Classical.choose_spec (tt k ts[k] (List.getElem?_eq_getElem hk))
  dsimp only
  rw [dif_pos hk]
  exact z
def spRg (P : Program) (w : World) (D : Addr) : Sp := fun vs H Q _ => ∃ (c : Addr) (gs : List Str) (rs : List Row), vs = [.ref c] ∧ ChAt P w D H c gs rs ∧ CFit gs rs ∧ (KN.Ring rs → ∀ L H', Same H H' → Q (.ref L) H') ∧ (¬ KN.Ring rs → ∀ H', Same H H' → Q .non H')
def spHr (P : Program) (w : World) (D : Addr) : Sp := fun vs H Q _ => ∃ (c : Addr) (gs : List Str) (rs : List Row), vs = [.ref c] ∧ ChAt P w D H c gs rs ∧ CFit gs rs ∧ (KN.Ring rs → ∀ H', Same H H' → Q (.bl true) H') ∧ (¬ KN.Ring rs → ∀ H', Same H H' → Q (.bl false) H')
theorem ok_ring {f : Addr} {fd : FuncData} (F : Fun K "ring" "Chains.ring" (chm 3) f fd) (T : Bi mg) (C : Ch K mg D) (LL : HasM P w K mg base D "_least_list" 1 ["self", "ends", "many", "most_sum"] (spLl P w D)) :
    FnG P w K mg base CX0 2 f fd ["self"] (spRg P w D) := by
  refine okG F scRg (fun vs H Q E h => ?_) (fun cdv A out s H vs Q E g hr h => ?_)
  · obtain ⟨c, gs, rs, rfl, _⟩ := h
    rfl
  · obtain ⟨c, gs, rs, rfl, ch, fit, qy, qn⟩ := h
    obtain ⟨pl, cs, ls, ts, ho, els, lts, tt⟩ := id ch
    obtain ⟨dx, eo⟩ := ho.ob
    obtain ⟨as, ec, ra⟩ := ho.cs
    obtain ⟨Fn, hF⟩ := tabs_fun tt
    have hr1 : Room 1 _ := hr
    have hu := hr.units
    have l2 := fit.g.l2
    have la : (as.map V.ref).length = rs.length := by rw [List.length_map]; exact Paired.length ra
    have ex : ∀ k, k ≤ (pts gs).length → KN.Exact rs (pts gs) k (Fn k) := fun k hk => by
      rw [pts_len] at hk
      exact (hF k ts[k] (List.getElem?_eq_getElem (by omega))).2
    have rif := KN.ring_iff (good_in fit.r) Fn ex
    rw [pts_len] at rif
    refine ⟨_, (pss_cons (ps_for PassesOwn.never rfl (pi_range2 (by rfl) T.range (pa_cons pe_int (pa_cons (pe_op op_add (pe_fld (pv 0) rfl) pe_int) pa_nil))) (pg_name (i := 1) scRg.nd rfl (.inl rfl))
      (pss_one (ps_for PassesOwn.never rfl (pi_enumA (by rfl) T.enumerate (pa_cons (pe_fld (pv 0) rfl) pa_nil)) (pg_tup rfl (pgs_cons (pg_name (i := 2) scRg.nd rfl (.inl rfl)) (pgs_cons (pg_tup rfl (pgs_cons (pg_name (i := 3) scRg.nd rfl (.inl rfl)) (pgs_cons (pg_name (i := 4) scRg.nd rfl (.inl rfl)) (pgs_cons (pg_name (i := 5) scRg.nd rfl (.inl rfl)) pgs_nil)))) pgs_nil)))
      (pss_one (ps_if (PW.pt (pw_and (pt_cmp (pc_oin (by have := hr.units; exact Nat.lt_of_le_of_lt (Nat.add_le_add_left (by decide) _) this) (pe_tupL (pa_cons (pv 4) (pa_cons (pv 3) pa_nil))) (pe_ix ix_list (pe_fld (pv 0) rfl) (pe_op op_sub (pv 1) pe_int) (fun _ _ => rfl)))) (pw_and1 (pt_cmpR op_lt (pe_op op_add (pv 5) (pe_oget (by have := hr.units; exact Nat.lt_of_le_of_lt (Nat.add_le_add_left (by decide) _) this) (pe_ix ix_list (pe_fld (pv 0) rfl) (pe_op op_sub (pv 1) pe_int) (fun _ _ => rfl)) (pe_tupL (pa_cons (pv 4) (pa_cons (pv 3) pa_nil))) (fun _ _ => rfl))) pe_int (nomark _))))) (pss_one (ps_ret (pe_hasM (n := 3) LL C.cl g hr1 rfl (pv 0) (pa_cons (pe_tupL (pa_cons (pv 3) (pa_cons (pv 3) pa_nil))) (pa_cons (pv 1) (pa_cons (pe_un un_neg pe_int) pa_nil)))))) pss_nil)))))
      (pss_one (ps_ret pe_non))), ?_⟩
    refine ⟨_, rfl, c, D, dx, _, _, rfl, eo, C.cl, C.nM, cfl_m, _, _, rfl, rfl, 1, _, rfl, ⟨by omega, by omega, by omega, by omega⟩, ?_⟩
    refine for_range (lo := 1) (n := (((gs.length + 1 : Nat) : Int) + 1 - 1).toNat) (fun i σ' H' => ∃ (x1 x2 x3 x4 x5 : Option V), σ' = [some (.ref c), x1, x2, x3, x4, x5] ∧ Same H H' ∧ ∀ k, k < i → ∀ a d m t, (a, d, m) ∈ rs → Fn k d a = some t → ¬ m + t < 0) ?_ ?_ ?_
    · exact ⟨_, _, _, _, _, rfl, Same.refl' _, fun k hk => by omega⟩
    · rintro i σ' H2 hi ⟨x1, x2, x3, x4, x5, rfl, s2, no⟩
      have hi5 : i < gs.length + 1 := by omega
      have hts : i < ts.length := by omega
      have hk : ts[i]? = some ts[i] := List.getElem?_eq_getElem hts
      obtain ⟨tak, _⟩ := hF i _ hk
      generalize ts[i] = tk at hk tak
      refine ⟨_, rfl, c, D, dx, _, _, rfl, s2 _ _ eo, C.cl, C.nK, cfl_c, cs, as.map V.ref, rfl, ?_⟩
      refine for_enum (H0 := H) (K := K) (.inl (SqL.of ec)) s2 (fun j σ' H' => ∃ (x2 x3 x4 x5 : Option V), σ' = [some (.ref c), some (.int (1 + (i : Nat))), x2, x3, x4, x5] ∧ Same H H' ∧ ∀ a d m t, (a, d, m) ∈ rs.take j → Fn i d a = some t → ¬ m + t < 0) ?_ ?_ ?_ ?_
      · exact ⟨x2, x3, x4, x5, rfl, s2, fun a d m t h => by simp at h⟩
      · rintro j σ' H' ⟨_, _, _, _, rfl, s3, _⟩
        exact s3
      · rintro j x σ' H3 H4 hj ⟨_, _, _, _, rfl, s3, no3⟩ ⟨Tp, y, rfl, nT, rfl, hy⟩
        obtain ⟨tr, r, rfl, er, et3⟩ := rows_at (rows_same ra s3) hy
        have hT : Same H3 (upd H3 Tp (.tup [.int (j : Nat), .ref tr])) := same_new (Same.refl' _) nT
        have s4 := s3.trans hT
        have eT : (upd H3 Tp (.tup [.int (j : Nat), .ref tr])) Tp = some (.tup [.int (j : Nat), .ref tr]) := upd_same
        have et4 := hT _ _ et3
        generalize upd H3 Tp (.tup [.int (j : Nat), .ref tr]) = H4 at hT s4 eT et4
        have gr := fit.r r (List.mem_of_getElem? er)
        have szl := sizeLine_eq
        have e1 : (1 : Int) + (i : Nat) - 1 = (i : Nat) := by omega
        have more : (∀ t, Fn i r.2.1 r.1 = some t → ¬ r.2.2 + t < 0) → ∀ a d m t, (a, d, m) ∈ rs.take (j + 1) → Fn i d a = some t → ¬ m + t < 0 := by
          intro h a d m t hm ht
          rw [take_more er] at hm
          rcases List.mem_append.mp hm with hm | hm
          · exact no3 a d m t hm ht
          · have e := List.mem_singleton.mp hm
            subst e
            exact h t ht
        refine ⟨Tp, _, rfl, SqT.of eT, rfl, _, _, rfl, _, _, rfl, tr, _, rfl, SqT.of et4, rfl, _, _, rfl, _, _, rfl, _, _, rfl, rfl, rfl, ?_⟩
        refine ⟨_, rfl, _, rfl, by show 2 ≤ sizeLine; decide, fun t1 H5 n5 e5 s5 => ?_⟩
        have S5 := s4.trans s5
        refine ⟨_, rfl, c, D, dx, _, _, rfl, S5 _ _ eo, C.cl, C.nS, cfl_s, _, rfl, _, _, rfl, rfl, ls, _, _, _, rfl, rfl, SqL.of (S5 _ _ els), by rw [e1]; exact atI_map hk, ?_⟩
        refine ⟨tk, _, rfl, (tak.same S5).get e5, _, rfl, ?_⟩
        cases hf : Fn i r.2.1 r.1 with
        | none => exact iteF (iteF ⟨_, _, _, _, rfl, S5, more fun t e => by rw [hf] at e; cases e⟩)
        | some s0 =>
          refine iteT ?_
          refine ⟨_, rfl, _, rfl, c, D, dx, _, _, rfl, S5 _ _ eo, C.cl, C.nS, cfl_s, _, rfl, _, _, rfl, rfl, ls, _, _, _, rfl, rfl, SqL.of (S5 _ _ els), by rw [e1]; exact atI_map hk, ?_⟩
          refine ⟨_, rfl, _, rfl, by show 2 ≤ sizeLine; decide, fun t2 H6 n6 e6 s6 => ?_⟩
          have S6 := S5.trans s6
          refine ⟨tk, _, rfl, by rw [← show ((some s0 : Option Int).map V.int) = some (V.int s0) from rfl, ← hf]; exact (tak.same S6).get e6, _, _, rfl, rfl, _, _, rfl, rfl, _, rfl, ?_⟩
          refine ite2 (fun c0 => ?_) (fun c0 => ⟨_, _, _, _, rfl, S6, more fun t e => by rw [hf] at e; cases e; exact fun z => c0 (decide_eq_true z)⟩)
          have hring : KN.Ring rs := rif.mpr ⟨i, hi5, r.1, r.2.1, r.2.2, s0, List.mem_of_getElem? er, hf, of_decide_eq_true c0⟩
          refine ⟨_, rfl, c, dx, _, rfl, S6 _ _ eo, cfl_o (by decide +kernel) (by decide +kernel) (by decide +kernel) (by decide +kernel), ?_⟩
          refine ⟨_, rfl, _, rfl, by show 2 ≤ sizeLine; decide, fun t3 H7 n7 e7 s7 => ?_⟩
          have S7 := S6.trans s7
          refine ⟨_, rfl, _, rfl, rfl, rfl, c, t3, gs, rs, r.1, r.1, i + 1, -1, ?_, ch.same S7, fit, e7, in_pts gr.one, by omega, fun L H8 s8 => qy hring L H8 (S7.trans s8)⟩
          have e2 : (1 : Int) + (i : Nat) = ((i + 1 : Nat) : Int) := by omega
          rw [← e2]
      · rintro σ' H3 ⟨x2, x3, x4, x5, rfl, s3, no3⟩
        rw [la, List.take_of_length_le (Nat.le_refl _)] at no3
        refine ⟨_, x2, x3, x4, x5, rfl, s3, fun k hk a d m t hm ht => ?_⟩
        by_cases e : k < i
        · exact no k e a d m t hm ht
        · have e : k = i := by omega
          subst e
          exact no3 a d m t hm ht
    · rintro σ' H2 ⟨_, _, _, _, _, rfl, s2, no⟩
      refine qn (fun hring => ?_) H2 s2
      obtain ⟨k, hk, a, d, m, t, h1, h2, h3⟩ := rif.mp hring
      exact no k (by omega) a d m t h1 h2 h3
theorem ok_hasring {f : Addr} {fd : FuncData} (F : Fun K "has_ring" "Chains.has_ring" (chm 2) f fd) (T : Bi mg) (C : Ch K mg D) (RG : HasM P w K mg base D "ring" 2 ["self"] (spRg P w D)) :
    FnG P w K mg base CX0 3 f fd ["self"] (spHr P w D) := by
  refine okG F scHr (fun vs H Q E h => ?_) (fun cdv A out s H vs Q E g hr h => ?_)
  · obtain ⟨c, gs, rs, rfl, _⟩ := h
    rfl
  · obtain ⟨c, gs, rs, rfl, ch, fit, qy, qn⟩ := h
    obtain ⟨pl, cs, ls, ts, ho, _⟩ := id ch
    obtain ⟨dx, eo⟩ := ho.ob
    have hr2 : Room 2 _ := hr
    refine ⟨_, (pss_one (ps_ret (pe_cmpR op_notN (pe_hasM0 RG C.cl g hr2 rfl (pv 0)) pe_non (nomark _)))), ?_⟩
    refine ⟨_, rfl, c, dx, _, rfl, eo, cfl_o (by decide +kernel) (by decide +kernel) (by decide +kernel) (by decide +kernel), rfl, rfl, ?_⟩
    exact ⟨c, gs, rs, rfl, ch, fit, fun hg L H1 s1 => ⟨rfl, qy hg H1 s1⟩, fun hg H1 s1 => ⟨rfl, qn hg H1 s1⟩⟩
end
end KM

set_option Elab.async false
set_option linter.all false
set_option maxRecDepth 100000
set_option maxHeartbeats 4000000
namespace KM
open PySem PySem.Spec PyProof.Rows L2 GL
/-! the tightest bound, a move -/
abbrev nTi : List Str := ["self", "first", "second", "sums", "found"]
abbrev nMo : List Str := ["self", "place", "changes", "_", "one", "other", "most", "good"]
theorem scTi : FnScope nTi ["self", "first", "second"] (defScope (chm 4)) := ⟨rfl, rfl, rfl, by decide +kernel, rfl, by decide +kernel, by decide +kernel⟩
theorem scMo : FnScope nMo ["self"] (defScope (chm 7)) := ⟨rfl, rfl, rfl, by decide +kernel, rfl, by decide +kernel, by decide +kernel⟩
def oI : Option Int → V
  | none => .non
  | some t => .int t
def spTi (P : Program) (w : World) (D : Addr) : Sp := fun vs H Q _ => ∃ (c : Addr) (gs : List Str) (rs : List Row) (a b : Pt), vs = [.ref c, oV a, oV b] ∧ ChAt P w D H c gs rs ∧ CFit gs rs ∧ a ∈ pts gs ∧ ¬ KN.Ring rs ∧ ∀ x H', KN.Least rs a b x → Same H H' → Q (oI x) H'
section
variable {P : Program} {w : World} {K : PySem.W.Frag} {mg : Str → Option Value} {base : Heap} {D : Addr}
theorem ok_tightest {f : Addr} {fd : FuncData} (F : Fun K "tightest" "Chains.tightest" (chm 4) f fd) (T : Bi mg) (C : Ch K mg D) :
    FnG P w K mg base CX0 1 f fd ["self", "first", "second"] (spTi P w D) := by
  refine okG F scTi (fun vs H Q E h => ?_) (fun cdv A out s H vs Q E g hr h => ?_)
  · obtain ⟨c, gs, rs, a, b, rfl, _⟩ := h
    rfl
  · obtain ⟨c, gs, rs, a, b, rfl, ch, fit, ha, nn, q⟩ := h
    obtain ⟨pl, cs, ls, ts, ho, els, lts, tt⟩ := id ch
    obtain ⟨dx, eo⟩ := ho.ob
    obtain ⟨Fn, hF⟩ := tabs_fun tt
    have l2 := fit.g.l2
    have ex : ∀ k, k ≤ (pts gs).length → KN.Exact rs (pts gs) k (Fn k) := fun k hk => by
      rw [pts_len] at hk
      exact (hF k ts[k] (List.getElem?_eq_getElem (by omega))).2
    have szl := sizeLine_eq
    refine ⟨_, (pss_cons (ps_setLc (i := 4) (own := [("sums", 3)]) (g := gName 3) (tt := tB (tOIn P w (tTupL (tCons (tVar 1) (tCons (tVar 2) tNil))) (tVar 3))) (te := tOGet P w (tVar 3) (tTupL (tCons (tVar 1) (tCons (tVar 2) tNil)))) rfl scTi.nd rfl rfl (sw_true rfl rfl rfl (by decide +kernel)) (pi_list (pe_fld (pv 0) rfl)) (blkOk_by (own := [("sums", 3)]) (N := nTi) (sc := defScope (chm 4)) (by decide +kernel)) (fun _ _ _ _ _ => by exact (pg_name (i := 3) scTi.nd rfl (.inl rfl))) (fun _ _ _ _ _ => by exact (pts_one (pt_cmp (pc_oin (by have := hr.units; exact Nat.lt_of_le_of_lt (Nat.add_le_add_left (by decide) _) this) (pe_tupL (pa_cons (pv 1) (pa_cons (pv 2) pa_nil))) (pv 3))))) (fun _ _ _ _ _ => by exact (pe_oget (by have := hr.units; exact Nat.lt_of_le_of_lt (Nat.add_le_add_left (by decide) _) this) (pv 3) (pe_tupL (pa_cons (pv 1) (pa_cons (pv 2) pa_nil))) (fun _ _ => rfl))))
      (pss_one (ps_ret (pe_ifExp (pt_cmpR op_gt (pe_callB call_len_seq (by rfl) T.len PySem.boot_len (pa_cons (pv 4) pa_nil)) pe_int (nomark _)) (pe_callB (cr_min (by rfl)) (by rfl) T.min (by decide +kernel) (pa_cons (pv 4) pa_nil)) pe_non)))), ?_⟩
    refine ⟨_, rfl, c, D, dx, _, _, rfl, eo, C.cl, C.nS, cfl_s, ls, rfl, ⟨_, SqL.of els⟩, fun L nL => ?_⟩
    refine lc_it (walk_list (K := K) (a := ls) (xs := ts.map V.ref)) (fun i H' => Same H H' ∧ ∃ ns : List Int, H' L = some (.lst (ns.map V.int)) ∧ ns.length ≤ i ∧ (∀ t ∈ ns, ∃ k, k < i ∧ Fn k a b = some t) ∧ ∀ k t, k < i → Fn k a b = some t → t ∈ ns) ?_ ?_ ?_ ?_
    · exact ⟨same_new (Same.refl' _) nL, [], upd_same, Nat.le_refl _, fun t h => (by cases h), fun k t h => by omega⟩
    · exact fun i H' _ ⟨z, _⟩ => SqL.of (z _ _ els)
    · rintro i x H1 H2 hi ⟨s1, ns, e1, ln, n1, n2⟩ ⟨rfl, hx⟩
      obtain ⟨tk, hk, rfl⟩ := get_map hx
      obtain ⟨tak, _⟩ := hF i tk hk
      have hi4 : i < ts.length := (List.getElem?_eq_some_iff.mp hk).1
      refine ⟨rfl, ?_⟩
      refine ⟨_, rfl, _, rfl, by show 2 ≤ sizeLine; decide, fun t1 H3 n3 e3 s3 => ?_⟩
      have S3 := s1.trans s3
      refine ⟨_, rfl, tk, _, rfl, (tak.same S3).get e3, _, rfl, ?_⟩
      have eL3 := s3 _ _ e1
      cases hf : Fn i a b with
      | none =>
        refine iteF ?_
        refine ⟨S3, ns, eL3, by omega, fun t h => ?_, fun k t hk' e => ?_⟩
        · obtain ⟨k, a1, a2⟩ := n1 t h
          exact ⟨k, by omega, a2⟩
        · by_cases z : k < i
          · exact n2 k t z e
          · have z : k = i := by omega
            subst z
            rw [hf] at e
            cases e
      | some t0 =>
        refine iteT ?_
        refine ⟨_, rfl, _, rfl, _, rfl, by show 2 ≤ sizeLine; decide, fun t2 H4 n4 e4 s4 => ?_⟩
        refine ⟨tk, _, rfl, by rw [← show ((some t0 : Option Int).map V.int) = some (V.int t0) from rfl, ← hf]; exact (tak.same (S3.trans s4)).get e4, ?_⟩
        have eL4 := s4 _ _ eL3
        refine ⟨_, eL4, by rw [List.length_map]; exact small1000 (by omega), same_but (S3.trans s4) But.refl.upd nL, ns ++ [t0], by rw [upd_same]; simp, by simp; omega, fun t h => ?_, fun k t hk' e => ?_⟩
        · rcases List.mem_append.mp h with h | h
          · obtain ⟨k, a1, a2⟩ := n1 t h
            exact ⟨k, by omega, a2⟩
          · exact ⟨i, by omega, by rw [hf, List.mem_singleton.mp h]⟩
        · by_cases z : k < i
          · exact List.mem_append_left _ (n2 k t z e)
          · have z : k = i := by omega
            subst z
            rw [hf] at e
            cases e
            exact List.mem_append_right _ (List.mem_singleton.mpr rfl)
    · rintro H1 ⟨s1, ns, e1, ln, n1, n2⟩
      rw [List.length_map, lts] at n1 n2
      have pl1 := pts_len gs
      refine ⟨_, rfl, L, _, rfl, .inl (SqL.of e1), _, _, rfl, rfl, _, rfl, ?_⟩
      rw [List.length_map]
      cases ns with
      | nil =>
        rw [decide_eq_false (by show ¬ (0 : Int) > 0; omega)]
        refine iteF ?_
        refine q none H1 (KN.least_of (good_in fit.r) nn Fn ex (a := a) (b := b) ha (x := none) fun k hk => ?_) s1
        cases e : Fn k a b with
        | none => rfl
        | some t => have := n2 k t (by omega) e; cases this
      | cons y r =>
        rw [decide_eq_true (by show (((r.length + 1 : Nat) : Int)) > 0; omega)]
        refine iteT ?_
        refine ⟨_, rfl, L, y :: r, rfl, SqL.of e1, by simp, fun m hm hmin => ?_⟩
        refine q (some m) H1 (KN.least_of (good_in fit.r) nn Fn ex (a := a) (b := b) ha (x := some m) ⟨?_, fun k hk s e => hmin s (n2 k s (by omega) e)⟩) s1
        obtain ⟨k, a1, a2⟩ := n1 m hm
        exact ⟨k, by omega, a2⟩
end
theorem dc_walk {J : It} {n : Nat} {G : Hp → Prop} {Y : Nat → Hp → V → Hp → Prop} (wk : Walk J n G Y) {D : Addr} {σ : L2.St} {vs : List Nat} {g : TG} {tt : TT} {tk tv : TE} {H2 : Hp} {Q : Hp → Prop} (Pv : Nat → Hp → Prop) (h0 : Pv 0 H2)
    (hG : ∀ i H, i ≤ n → Pv i H → G H) (hs : ∀ i x H H', i < n → Pv i H → Y i H x H' → g x (wipe σ vs) H' fun σ2 H2 => wipe σ2 vs = wipe σ vs ∧ tt σ2 H2 fun b H3 => if b = true then tk σ2 H3 fun y H4 => tv σ2 H4 fun z H5 => ∃ (kvs : List (L2.Key × V)) (k : L2.Key), y = kV k ∧ H5 D = some (.dK kvs) ∧ kvs.length < sizeLine ∧ Pv (i + 1) (upd H5 D (.dK (putK kvs k z))) else Pv (i + 1) H3)
    (hd : ∀ H, Pv n H → Q H) :
    ∃ W : Nat → Nat → Hp → Prop, (∃ m, W 0 m H2) ∧ ∀ i m H, W i m H → (J.stop i H ∧ Q H) ∨ (J.go i H ∧ ∃ Nx : Hp → Prop, (∀ H', Nx H' → ∃ m', m' < m ∧ W (i + 1) m' H') ∧ ∀ x H', J.yld i H x H' → g x (wipe σ vs) H' fun σ2 H2 => wipe σ2 vs = wipe σ vs ∧ tt σ2 H2 fun b H3 => if b = true then tk σ2 H3 fun y H4 => tv σ2 H4 fun z H5 => ∃ (kvs : List (L2.Key × V)) (k : L2.Key), y = kV k ∧ H5 D = some (.dK kvs) ∧ kvs.length < sizeLine ∧ Nx (upd H5 D (.dK (putK kvs k z))) else Nx H3) := by
  refine ⟨fun i m H => m = n - i ∧ i ≤ n ∧ Pv i H, ⟨n, by omega, by omega, h0⟩, ?_⟩
  rintro i m H ⟨rfl, hi, p⟩
  by_cases e : i = n
  · subst e
    exact .inl ⟨wk.stops H (hG _ _ hi p), hd H p⟩
  · have lt : i < n := by omega
    exact .inr ⟨wk.goes i H lt (hG _ _ hi p), Pv (i + 1), fun H' p' => ⟨n - (i + 1), by omega, rfl, by omega, p'⟩, fun x H' y => hs i x H H' lt p (wk.yields i H x H' lt (hG _ _ hi p) y)⟩
def mvStep (f : Pt → Int) (r : Row) : Pt → Int := fun q => if q = r.1 then min (f r.1) (f r.2.1 + r.2.2) else f q
def mvI (rs : List Row) : Nat → Pt → Int
  | 0 => fun _ => 0
  | i + 1 => rs.foldl mvStep (mvI rs i)
/-- the told changes -/
def mvG (gs : List Str) (rs : List Row) : Pt → Int := fun p => mvI rs (gs.length + 1) p - mvI rs (gs.length + 1) none
def chgD (gs : List Str) (g : Pt → Int) : List (L2.Key × V) := gs.map fun x => (Sum.inr x, V.int (g (some x)))
def spMv (P : Program) (w : World) (D : Addr) : Sp := fun vs H Q _ => ∃ (c : Addr) (gs : List Str) (rs : List Row), vs = [.ref c] ∧ ChAt P w D H c gs rs ∧ CFit gs rs ∧ ¬ KN.Ring rs ∧
  ∀ d H', H d = none → H' d = some (.dK (chgD gs (mvG gs rs))) → mvG gs rs none = 0 → (∀ c ∈ rs, mvG gs rs c.1 - mvG gs rs c.2.1 ≤ c.2.2) → Same H H' → Q (.ref d) H'
theorem pts_nd {gs : List Str} (h : gs.Nodup) : (pts gs).Nodup := by
  unfold pts
  refine List.nodup_cons.mpr ⟨fun z => ?_, ?_⟩
  · obtain ⟨x, _, e⟩ := List.mem_map.mp z
    cases e
  · exact List.Pairwise.map some (fun a b (e : a ≠ b) f => e (Option.some.inj f)) h
theorem nd_at {α : Type} {l : List α} (h : l.Nodup) {i : Nat} {x : α} (e : l[i]? = some x) : x ∉ l.take i := by
  intro m
  obtain ⟨j, hj, ej⟩ := List.mem_iff_getElem.mp m
  rw [List.length_take] at hj
  rw [List.getElem_take] at ej
  obtain ⟨hi, ei⟩ := List.getElem?_eq_some_iff.mp e
  exact List.pairwise_iff_getElem.mp h j i (by omega) hi (by omega) (ej.trans ei.symm)
theorem chg_new {l : List Pt} {p : Pt} {f : Pt → Int} (h : p ∉ l) : putK (ChgK l f) (kO p) (.int (f p)) = ChgK (l ++ [p]) f := by
  have z : valV (ChgK l f) (kO p) = none := by
    induction l with
    | nil => rfl
    | cons a r ih =>
      have h1 : ¬ kO a = kO p := fun z => h (by rw [kO_inj z]; exact List.mem_cons_self ..)
      exact (valV_neg (κ := NK) (p := (kO a, V.int (f a))) h1).trans (ih fun z => h (List.mem_cons_of_mem _ z))
  rw [putK_new _ z]
  unfold ChgK
  rw [List.map_append]
  rfl
theorem strs_new {l : List Str} {x : Str} {f : Str → Int} (h : x ∉ l) : putK (l.map fun y => ((Sum.inr y : L2.Key), V.int (f y))) (Sum.inr x) (.int (f x)) = (l ++ [x]).map fun y => ((Sum.inr y : L2.Key), V.int (f y)) := by
  have z : valV (l.map fun y => ((Sum.inr y : L2.Key), V.int (f y))) (Sum.inr x) = none := by
    induction l with
    | nil => rfl
    | cons a r ih =>
      have h1 : ¬ (Sum.inr a : L2.Key) = Sum.inr x := fun z => h (by cases z; exact List.mem_cons_self ..)
      exact (valV_neg (p := ((Sum.inr a : L2.Key), V.int (f a))) h1).trans (ih fun z => h (List.mem_cons_of_mem _ z))
  rw [putK_new _ z, List.map_append]
  rfl
section
variable {P : Program} {w : World} {K : PySem.W.Frag} {mg : Str → Option Value} {base : Heap} {D : Addr}
theorem ok_move {f : Addr} {fd : FuncData} (F : Fun K "move" "Chains.move" (chm 7) f fd) (T : Bi mg) (C : Ch K mg D) :
    FnG P w K mg base CX0 1 f fd ["self"] (spMv P w D) := by
  refine okG F scMo (fun vs H Q E h => ?_) (fun cdv A out s H vs Q E g hr h => ?_)
  · obtain ⟨c, gs, rs, rfl, _⟩ := h
    rfl
  · obtain ⟨c, gs, rs, rfl, ch, fit, nn, q⟩ := h
    obtain ⟨pl, cs, ls, ts, ho, els, lts, tt⟩ := id ch
    obtain ⟨dx, eo⟩ := ho.ob
    obtain ⟨as, ec, ra⟩ := ho.cs
    have l2 := fit.g.l2
    have lr := fit.n
    have szl := sizeLine_eq
    have la : (as.map V.ref).length = rs.length := by rw [List.length_map]; exact Paired.length ra
    have lp : ((pts gs).map oV).length = gs.length + 1 := by rw [List.length_map, pts_len]
    have nd := pts_nd fit.g.nd
    have ic := good_in fit.r
    refine ⟨_, (pss_cons (ps_set (i := 2) scMo.nd rfl (.inr rfl) (pe_oc ⟨rfl, scMo.nd, (pi_list (pe_fld (pv 0) rfl)), blkOk_by (own := [("place", 1)]) (N := nMo) (sc := defScope (chm 7)) (by decide +kernel), (fun _ _ _ _ _ => pg_name (i := 1) scMo.nd rfl (.inl rfl)), (fun _ _ _ _ _ => pts_nil), (fun _ _ _ _ _ => by exact (pv 1)), (fun _ _ _ _ _ => by exact pe_int), (fun _ => rfl), hr.units0⟩ starts_n))
      (pss_cons (ps_for PassesOwn.never rfl (pi_range1 (by rfl) T.range (pa_cons (pe_fld (pv 0) rfl) pa_nil)) (pg_name (i := 3) scMo.nd rfl (.inl rfl))
      (pss_one (ps_for PassesOwn.never rfl (pi_list (pe_fld (pv 0) rfl)) (pg_tup rfl (pgs_cons (pg_name (i := 4) scMo.nd rfl (.inl rfl)) (pgs_cons (pg_name (i := 5) scMo.nd rfl (.inl rfl)) (pgs_cons (pg_name (i := 6) scMo.nd rfl (.inl rfl)) pgs_nil))))
      (pss_one (ps_oput (by have := hr.units; exact Nat.lt_of_le_of_lt (Nat.add_le_add_left (by decide) _) this) (pv 2) (pv 4) (pe_callB (call_min2 rfl) (by rfl) T.min (by decide +kernel) (pa_cons (pe_oget (by have := hr.units; exact Nat.lt_of_le_of_lt (Nat.add_le_add_left (by decide) _) this) (pv 2) (pv 4) (fun _ _ => rfl)) (pa_cons (pe_op op_add (pe_oget (by have := hr.units; exact Nat.lt_of_le_of_lt (Nat.add_le_add_left (by decide) _) this) (pv 2) (pv 5) (fun _ _ => rfl)) (pv 6)) pa_nil))) rfl)))))
      (pss_one (ps_ret (pe_dc (own := [("good", 7)]) (g := gName 7) (tt := tYes) (tk := tVar 7) (tv := tOp (rI0 fun i j => V.int (i - j)) (tOGet P w (tVar 2) (tVar 7)) (tOGet P w (tVar 2) (tC .non))) rfl scMo.nd (pi_list (pe_slice slcL (pe_fld (pv 0) rfl) (po_some pe_int) po_none)) (blkOk_by (own := [("good", 7)]) (N := nMo) (sc := defScope (chm 7)) (by decide +kernel)) (fun _ _ _ _ _ => by exact (pg_name (i := 7) scMo.nd rfl (.inl rfl))) (fun _ _ _ _ _ => pts_nil) (fun _ _ _ _ _ => by exact (pv 7)) (fun _ _ _ _ _ => by exact (pe_op op_sub (pe_oget (by have := hr.units; exact Nat.lt_of_le_of_lt (Nat.add_le_add_left (by decide) _) this) (pv 2) (pv 7) (fun _ _ => rfl)) (pe_oget (by have := hr.units; exact Nat.lt_of_le_of_lt (Nat.add_le_add_left (by decide) _) this) (pv 2) pe_non (fun _ _ => rfl))))))))), ?_⟩
    refine ⟨_, rfl, c, D, dx, _, _, rfl, eo, C.cl, C.nP, cfl_p, pl, rfl, ⟨_, SqL.of ho.pl⟩, ?_⟩
    intro d H1 n1 e1 s1
    refine oc_walk (walk_list (K := K) (a := pl) (xs := (pts gs).map oV)) (fun i H' => Same H H' ∧ H' d = some (NDo P w d (ChgK ((pts gs).take i) (fun _ => 0)))) ⟨s1, e1⟩ (fun i H' _ ⟨z, _⟩ => SqL.of (z _ _ ho.pl)) ?_ ?_
    · rintro i y H2 H3 hi ⟨s2, e2⟩ ⟨rfl, hy⟩
      obtain ⟨p, hp, rfl⟩ := oV_at hy
      rw [lp] at hi
      refine ⟨rfl, yes_go ?_⟩
      refine ⟨_, rfl, .inl ⟨_, kO p, e2, (nV_kO p).symm, small1000 (by unfold ChgK; rw [List.length_map, List.length_take]; omega), fun H4 e4 b4 => ⟨same_but s2 b4 n1, ?_⟩⟩⟩
      rw [take_more hp, ← chg_new (f := fun _ => 0) (nd_at nd hp)]
      exact e4
    rintro H2 ⟨s2, e2⟩
    rw [lp, ← pts_len, List.take_length] at e2
    refine ⟨_, rfl, c, D, dx, _, _, rfl, s2 _ _ eo, C.cl, C.nM, cfl_m, _, rfl, by omega, by omega, ?_⟩
    refine for_range (n := ((gs.length + 1 : Nat) : Int).toNat) (fun i σ' H' => ∃ (x1 x3 x4 x5 x6 x7 : Option V), σ' = [some (.ref c), x1, some (.ref d), x3, x4, x5, x6, x7] ∧ Same H H' ∧ ∃ f : Pt → Int, H' d = some (NDo P w d (ChgK (pts gs) f)) ∧ KN.Mov rs (pts gs) i f ∧ f = mvI rs i) ?_ ?_ ?_
    · exact ⟨_, _, _, _, _, _, rfl, s2, fun _ => 0, e2, .zero fun _ _ => rfl, rfl⟩
    · rintro i σ' H3 hi ⟨x1, x3, x4, x5, x6, x7, rfl, s3, f0, e3, m3, q3⟩
      have hi5 : i < gs.length + 1 := by omega
      refine ⟨_, rfl, c, D, dx, _, _, rfl, s3 _ _ eo, C.cl, C.nK, cfl_c, cs, rfl, ⟨_, SqL.of (s3 _ _ ec)⟩, ?_⟩
      refine for_list (K := K) (a := cs) (xs := as.map V.ref) (fun j σ' H' => ∃ (x4 x5 x6 : Option V), σ' = [some (.ref c), x1, some (.ref d), some (.int (0 + (i : Nat))), x4, x5, x6, x7] ∧ Same H H' ∧
        ∃ f : Pt → Int, H' d = some (NDo P w d (ChgK (pts gs) f)) ∧ KN.MRnd rs (pts gs) f0 f (fun x => x ∈ rs.take j) ∧ f = (rs.take j).foldl mvStep f0) ?_ ?_ ?_ ?_
      · refine ⟨x4, x5, x6, rfl, s3, f0, e3, ⟨m3.s, fun _ _ => Int.le_refl _, fun x q => by simp at q⟩, rfl⟩
      · rintro j σ' H4 _ ⟨_, _, _, rfl, s4, _⟩
        exact SqL.of (s4 _ _ ec)
      · rintro j x σ' H4 hj ⟨_, _, _, rfl, s4, f, e4, m4, q4⟩
        obtain ⟨tr, r, rfl, er, et⟩ := rows_at (rows_same ra s4) hj
        have rmem := List.mem_of_getElem? er
        have gr := fit.r r rmem
        have pr1 := in_pts gr.one
        have pr2 := in_pts gr.two
        have most := gr.most
        refine ⟨tr, _, rfl, SqT.of et, rfl, _, _, rfl, _, _, rfl, _, _, rfl, rfl, ?_⟩
        have og : ∀ {p : Pt}, p ∈ pts gs → OGet P w H4 d (oV p) (some (.int (f p))) := fun {p} hp => .inl ⟨_, kO p, e4, (nV_kO p).symm, (chg_val hp).symm⟩
        refine ⟨_, rfl, _, rfl, d, _, rfl, og pr1, _, rfl, _, rfl, d, _, rfl, og pr2, _, rfl, _, _, rfl, rfl, _, _, rfl, ?_⟩
        refine ⟨_, rfl, _, rfl, d, rfl, .inl ⟨_, kO r.1, e4, (nV_kO _).symm, small1000 (by unfold ChgK; rw [List.length_map, pts_len]; omega), fun H5 e5 bt5 => ?_⟩⟩
        have val : (if f r.2.1 + r.2.2 < f r.1 then f r.2.1 + r.2.2 else f r.1) = min (f r.1) (f r.2.1 + r.2.2) := by
          rw [Int.min_def]
          split <;> split <;> omega
        rw [val, chg_put pr1] at e5
        refine ⟨_, _, _, rfl, same_but s4 bt5 n1, _, e5, ?_, by rw [take_more er, List.foldl_append, ← q4]; rfl⟩
        · have z := m4.put ic (a := r.1) (d := r.2.1) (m := r.2.2) rmem (fun x hx => List.mem_of_mem_take hx)
          refine ⟨z.s, z.b, fun x q => z.c x ?_⟩
          rw [take_more er] at q
          rcases List.mem_append.mp q with q | q
          · exact .inl q
          · exact .inr (List.mem_singleton.mp q)
      · rintro σ' H4 ⟨_, _, _, rfl, s4, f, e4, m4, q4⟩
        rw [la] at m4 q4
        rw [List.take_of_length_le (Nat.le_refl _)] at m4 q4
        exact ⟨x1, _, _, _, _, x7, rfl, s4, f, e4, m4.done ic m3 fun c hc => hc, by rw [q4, q3]; rfl⟩
    · rintro σ' H3 ⟨x1, x3, x4, x5, x6, x7, rfl, s3, f, e3, m3, q3⟩
      have k3 : KN.Mov rs (pts gs) (pts gs).length f := by
        rw [pts_len]
        exact m3
      have keeps := k3.keeps ic nn
      refine ⟨_, rfl, c, D, dx, _, _, rfl, s3 _ _ eo, C.cl, C.nP, cfl_p, 1, rfl, pl, _, rfl, SqL.of (s3 _ _ ho.pl), fun G H4 n4 e4 s4 => ?_⟩
      have cut : cutV ((pts gs).map oV) (some (1 : Int)) none = gs.map V.str := by
        have z := cut_drop (xs := (pts gs).map oV) (i := 1) (by rw [lp]; omega)
        have e1 : ((1 : Nat) : Int) = 1 := rfl
        rw [e1] at z
        rw [z]
        unfold pts
        rw [List.map_cons, List.map_map]
        rfl
      rw [cut] at e4
      refine ⟨G, rfl, ⟨_, SqL.of e4⟩, fun R nR => ?_⟩
      refine dc_walk (walk_list (K := K) (a := G) (xs := gs.map V.str)) (fun i H' => Same H4 H' ∧ H' R = some (.dK ((gs.take i).map fun y => ((Sum.inr y : L2.Key), V.int (f (some y) - f none))))) ⟨same_new (Same.refl' _) nR, upd_same⟩ (fun i H' _ ⟨z, _⟩ => SqL.of (z _ _ e4)) ?_ ?_
      · rintro i y H5 H6 hi ⟨s5, e5⟩ ⟨rfl, hy⟩
        obtain ⟨x, hx, rfl⟩ := get_map hy
        have e5d := s5 _ _ (s4 _ _ e3)
        have og : ∀ {p : Pt}, p ∈ pts gs → OGet P w H6 d (oV p) (some (.int (f p))) := fun {p} hp => .inl ⟨_, kO p, e5d, (nV_kO p).symm, (chg_val hp).symm⟩
        refine ⟨rfl, yes_go ?_⟩
        refine ⟨_, rfl, _, rfl, _, rfl, d, _, rfl, og (p := some x) (in_pts fun z e => by cases e; exact List.mem_of_getElem? hx), _, rfl, d, _, rfl, og (p := none) (in_pts fun z e => by cases e), _, _, rfl, rfl, ?_⟩
        refine ⟨_, Sum.inr x, rfl, e5, small1000 (by rw [List.length_map, List.length_take]; omega), same_but s5 But.refl.upd nR, ?_⟩
        rw [upd_same, take_more hx, ← strs_new (f := fun y => f (some y) - f none) (nd_at fit.g.nd hx)]
      · rintro J5 ⟨s5, e5⟩
        rw [List.length_map, List.take_length] at e5
        have eg : mvG gs rs = fun p => f p - f none := by rw [q3]; rfl
        refine q R J5 ((s3.trans s4).free nR) (by rw [eg]; exact e5) (by rw [eg]; show f none - f none = 0; omega) (fun c hc => ?_) ((s3.trans s4).trans s5)
        · have := keeps c hc
          rw [eg]
          show (f c.1 - f none) - (f c.2.1 - f none) ≤ c.2.2
          omega
end
end KM

set_option linter.all false
/-! Lists of positions: chains, and the least list of those with so many positions and at most such a sum. -/
namespace KN
variable {P : Type} [DecidableEq P]
/-- a list of positions that leads from the one to the other, its sum -/
inductive PL (C : List (Cond P)) : P → P → List Nat → Int → Prop where
  | nil {a : P} : PL C a a [] 0
  | cons {a b c : P} {i : Nat} {m s : Int} {l : List Nat} : C[i]? = some (a, b, m) → PL C b c l s → PL C a c (i :: l) (m + s)
theorem PL.way {C : List (Cond P)} {a b : P} {l : List Nat} {s : Int} (h : PL C a b l s) : ∃ vs, W C a b vs s ∧ vs.length = l.length := by
  induction h with
  | nil => exact ⟨[], .nil, rfl⟩
  | cons e _ ih =>
    obtain ⟨vs, w, n⟩ := ih
    exact ⟨_, .cons (List.mem_of_getElem? e) w, by simp [n]⟩
theorem PL.of {C : List (Cond P)} {a b : P} {vs : List P} {s : Int} (h : W C a b vs s) : ∃ l, PL C a b l s ∧ l.length = vs.length := by
  induction h with
  | nil => exact ⟨[], .nil, rfl⟩
  | cons e _ ih =>
    obtain ⟨l, w, n⟩ := ih
    obtain ⟨i, hi, ei⟩ := List.mem_iff_getElem.mp e
    exact ⟨i :: l, .cons (by rw [List.getElem?_eq_getElem hi, ei]) w, by simp [n]⟩
theorem PL.one {C : List (Cond P)} {a b a' b' : P} {l : List Nat} {s s' : Int} (h : PL C a b l s) (h' : PL C a' b' l s') (n : l ≠ []) : a = a' ∧ b = b' ∧ s = s' := by
  induction h generalizing a' s' with
  | nil => exact absurd rfl n
  | @cons a b c i m s l e w ih =>
    cases h' with
    | @cons _ d' _ _ m' s'' _ e' w' =>
      rw [e] at e'
      injection e' with e'
      injection e' with e1 e2
      injection e2 with e2 e3
      subst e1 e2 e3
      by_cases z : l = []
      · subst z
        cases w
        cases w'
        exact ⟨rfl, rfl, rfl⟩
      · obtain ⟨_, h2, h3⟩ := ih w' z
        exact ⟨rfl, h2, by rw [h3]⟩
theorem PL.lt {C : List (Cond P)} {a b : P} {l : List Nat} {s : Int} (h : PL C a b l s) : ∀ i ∈ l, i < C.length := by
  induction h with
  | nil => intro i q; cases q
  | cons e _ ih =>
    intro i q
    rcases List.mem_cons.mp q with rfl | q
    · exact (List.getElem?_eq_some_iff.mp e).1
    · exact ih i q
/-- Python's order of lists -/
def lx : List Nat → List Nat → Bool
  | [], [] => false
  | [], _ :: _ => true
  | _ :: _, [] => false
  | a :: l, b :: m => decide (a < b) || (decide (a = b) && lx l m)
theorem lx_refl : ∀ l, lx l l = false
  | [] => rfl
  | a :: l => by
    show (decide (a < a) || (decide (a = a) && lx l l)) = false
    rw [lx_refl l, decide_eq_false (Nat.lt_irrefl a)]
    simp
theorem lx_eq : ∀ {l m : List Nat}, lx l m = false → lx m l = false → l = m
  | [], [], _, _ => rfl
  | [], _ :: _, h, _ => by cases h
  | _ :: _, [], _, h => by cases h
  | a :: l, b :: m, h, k => by
    have h : (decide (a < b) || (decide (a = b) && lx l m)) = false := h
    have k : (decide (b < a) || (decide (b = a) && lx m l)) = false := k
    rw [Bool.or_eq_false_iff, decide_eq_false_iff_not] at h k
    have e : a = b := by omega
    subst e
    have h2 := h.2
    have k2 := k.2
    rw [decide_eq_true rfl, Bool.true_and] at h2 k2
    rw [lx_eq h2 k2]
theorem lx_trans : ∀ {l m n : List Nat}, lx l m = true → lx m n = true → lx l n = true
  | [], _, [], h, k => by
    rename_i m
    cases m with
    | nil => exact h
    | cons => cases k
  | [], _, _ :: _, _, _ => rfl
  | _ :: _, [], _, h, _ => by cases h
  | _ :: _, _ :: _, [], _, k => by cases k
  | a :: l, b :: m, c :: n, h, k => by
    have h : (decide (a < b) || (decide (a = b) && lx l m)) = true := h
    have k : (decide (b < c) || (decide (b = c) && lx m n)) = true := k
    show (decide (a < c) || (decide (a = c) && lx l n)) = true
    rw [Bool.or_eq_true, Bool.and_eq_true, decide_eq_true_iff, decide_eq_true_iff] at h k ⊢
    rcases h with h | ⟨h1, h2⟩
    · rcases k with k | ⟨k1, _⟩
      · exact .inl (by omega)
      · exact .inl (by omega)
    · rcases k with k | ⟨k1, k2⟩
      · exact .inl (by omega)
      · exact .inr ⟨by omega, lx_trans h2 k2⟩
/-- of so many positions, with at most such a sum, the least list -/
inductive LL (C : List (Cond P)) : P → P → Nat → Int → List Nat → Prop where
  | nil {a : P} {z : Int} : 0 ≤ z → LL C a a 0 z []
  | cons {a b c : P} {i k : Nat} {m z : Int} {l : List Nat} : C[i]? = some (a, b, m) → LL C b c k (z - m) l →
      (∀ j < i, ∀ d n, C[j]? = some (a, d, n) → ∀ u t, PL C d c u t → u.length = k → ¬ n + t ≤ z) → LL C a c (k + 1) z (i :: l)
theorem LL.sum {C : List (Cond P)} {a b : P} {k : Nat} {z : Int} {l : List Nat} (h : LL C a b k z l) : ∃ s, PL C a b l s ∧ s ≤ z ∧ l.length = k := by
  induction h with
  | nil h => exact ⟨0, .nil, h, rfl⟩
  | cons e _ _ ih =>
    obtain ⟨s, w, l, n⟩ := ih
    exact ⟨_, .cons e w, by omega, by simp [n]⟩
theorem LL.least {C : List (Cond P)} {a b : P} {k : Nat} {z : Int} {l : List Nat} (h : LL C a b k z l) : ∀ {u : List Nat} {t : Int}, PL C a b u t → t ≤ z → u.length = k → lx u l = false := by
  induction h with
  | nil _ =>
    intro u t w _ n
    have : u = [] := by cases u with | nil => rfl | cons => simp at n
    subst this
    rfl
  | @cons a b c i k m z l e h0 h1 ih =>
    intro u t w hz n
    cases w with
    | nil => simp at n
    | @cons _ d _ j m' s u' e' w' =>
      show (decide (j < i) || (decide (j = i) && lx u' l)) = false
      have nj : ¬ j < i := fun q => h1 j q d m' e' u' s w' (by simpa using n) hz
      rw [decide_eq_false nj, Bool.false_or]
      by_cases q : j = i
      · subst q
        rw [e] at e'
        injection e' with e'
        injection e' with e1 e2
        injection e2 with e2 e3
        subst e2 e3
        rw [decide_eq_true rfl, Bool.true_and]
        exact ih w' (by omega) (by simpa using n)
      · rw [decide_eq_false q, Bool.false_and]
/-- the head of the least closed list: the first position at which one may start -/
theorem LL.first {C : List (Cond P)} {a b : P} {k : Nat} {z : Int} {i : Nat} {l : List Nat} (h : LL C a b (k + 1) z (i :: l)) {j : Nat} {d : P} {n t : Int} {u : List Nat} (e : C[j]? = some (a, d, n)) (w : PL C d b u t) (hu : u.length = k) (hz : n + t ≤ z) : i ≤ j := by
  cases h with
  | cons _ _ h1 =>
    by_cases q : i ≤ j
    · exact q
    · exact absurd hz (h1 j (by omega) d n e u t w hu)
/-- a step of the search for the least list: what may follow -/
structure Nxt (C : List (Cond P)) (F : Tab P) (a b : P) (z : Int) (i : Nat) (d : P) (m : Int) : Prop where
  at_ : C[i]? = some (a, d, m)
  ok : ∃ t, F d b = some t ∧ m + t ≤ z
  no : ∀ j < i, ∀ e n, C[j]? = some (a, e, n) → ∀ t, F e b = some t → ¬ n + t ≤ z
theorem Nxt.ll {C : List (Cond P)} {V : List P} (iv : In V C) {F : Tab P} {a b d : P} {z m : Int} {i k : Nat} {l : List Nat} (x : Exact C V k F) (h : Nxt C F a b z i d m) (r : LL C d b k (z - m) l) : LL C a b (k + 1) z (i :: l) :=
  .cons h.at_ r fun j hj e n ej u t w hu hz => by
    obtain ⟨vs, w2, n2⟩ := w.way
    obtain ⟨t2, e2, l2⟩ := x.c e b vs t (iv _ (List.mem_of_getElem? ej)).2 w2 (by omega)
    exact h.no j hj e n ej t2 e2 (by omega)
/-- there is such a list: then there is a next position -/
theorem nxt_ex {C : List (Cond P)} {V : List P} (iv : In V C) {F : Tab P} {a b : P} {z : Int} {k : Nat} (x : Exact C V k F) {u : List Nat} {t : Int} (w : PL C a b u t) (hu : u.length = k + 1) (hz : t ≤ z) :
    ∃ (i : Nat) (d : P) (m : Int), C[i]? = some (a, d, m) ∧ ∃ t, F d b = some t ∧ m + t ≤ z := by
  cases w with
  | nil => simp at hu
  | @cons _ d _ i m s u' e w' =>
    obtain ⟨vs, w2, n2⟩ := w'.way
    obtain ⟨t2, e2, l2⟩ := x.c d b vs s (iv _ (List.mem_of_getElem? e)).2 w2 (by simp at hu; omega)
    exact ⟨i, d, m, e, t2, e2, by omega⟩
/-- behind it there is one again -/
theorem nxt_go {C : List (Cond P)} {V : List P} {F : Tab P} {a b d : P} {z m : Int} {i k : Nat} (x : Exact C V k F) (h : Nxt C F a b z i d m) : ∃ u t, PL C d b u t ∧ u.length = k ∧ t ≤ z - m := by
  obtain ⟨t, e, l⟩ := h.ok
  obtain ⟨vs, w, n⟩ := x.s d b t e
  obtain ⟨u, w2, n2⟩ := PL.of w
  exact ⟨u, t, w2, by omega, by omega⟩
/-! ### the first of some lists: the fewest positions, then the least -/
def FirstOf (ls : List (List Nat)) : Option (List Nat) → Prop
  | none => ls = []
  | some l => l ∈ ls ∧ (∀ u ∈ ls, l.length ≤ u.length) ∧ ∀ u ∈ ls, u.length = l.length → lx u l = false
theorem FirstOf.one {ls : List (List Nat)} : ∀ {x y : Option (List Nat)}, FirstOf ls x → FirstOf ls y → x = y
  | none, none, _, _ => rfl
  | none, some l, h, ⟨m, _⟩ => by rw [show ls = [] from h] at m; cases m
  | some l, none, ⟨m, _⟩, h => by rw [show ls = [] from h] at m; cases m
  | some l, some u, ⟨m1, a1, b1⟩, ⟨m2, a2, b2⟩ => by
    have e : u.length = l.length := Nat.le_antisymm (a2 l m1) (a1 u m2)
    rw [lx_eq (b2 l m1 e.symm) (b1 u m2 e)]
/-- what the search for a ring tells -/
def RingL (C : List (Cond P)) : Option (List Nat) → Prop
  | none => ¬ Ring C
  | some l => (∃ a s, PL C a a l s ∧ s < 0) ∧ (∀ a u s, PL C a a u s → s < 0 → l.length ≤ u.length) ∧ ∀ a u s, PL C a a u s → s < 0 → u.length = l.length → lx u l = false
theorem ringL_of {C : List (Cond P)} {V : List P} (iv : In V C) (F : Nat → Tab P) (hF : ∀ k, k ≤ V.length → Exact C V k (F k)) {k i : Nat} {a d : P} {m t : Int} {l : List Nat} (hk : k < V.length)
    (few : ∀ k', k' < k → ∀ (j : Nat) (a' d' : P) (m' : Int), C[j]? = some (a', d', m') → ∀ t', F k' d' a' = some t' → ¬ m' + t' < 0)
    (none : ∀ j, j < i → ∀ (a' d' : P) (m' : Int), C[j]? = some (a', d', m') → ∀ t', F k d' a' = some t' → ¬ m' + t' < 0)
    (e : C[i]? = some (a, d, m)) (et : F k d a = some t) (neg : m + t < 0) (h : LL C a a (k + 1) (-1) l) : RingL C (some l) := by
  obtain ⟨s, w, hs, hl⟩ := h.sum
  -- a closed list with a sum below 0 starts like this
  have start : ∀ {b : P} {u : List Nat} {r : Int}, PL C b b u r → r < 0 → ∃ j u' d' m' t', u = j :: u' ∧ C[j]? = some (b, d', m') ∧ (u'.length ≤ V.length → F u'.length d' b = some t' ∧ m' + t' < 0) ∧ ∃ r', PL C d' b u' r' ∧ r = m' + r' := by
    intro b u r w hr
    cases w with
    | nil => omega
    | @cons _ d' _ j m' s' u' e' w' =>
      by_cases q : u'.length ≤ V.length
      · obtain ⟨vs, w2, n2⟩ := w'.way
        obtain ⟨t2, e2, l2⟩ := (hF u'.length q).c d' b vs s' (iv _ (List.mem_of_getElem? e')).2 w2 n2
        exact ⟨j, u', d', m', t2, rfl, e', fun _ => ⟨e2, by omega⟩, s', w', rfl⟩
      · exact ⟨j, u', d', m', 0, rfl, e', fun z => absurd z q, s', w', rfl⟩
  refine ⟨⟨a, s, w, by omega⟩, fun b u r wu hr => ?_, fun b u r wu hr hu => ?_⟩
  · obtain ⟨j, u', d', m', t', rfl, e', f', _⟩ := start wu hr
    rw [hl]
    by_cases q : u'.length < k
    · obtain ⟨e2, n2⟩ := f' (by omega)
      exact absurd n2 (few _ q j b d' m' e' t' e2)
    · simp only [List.length_cons]; omega
  · obtain ⟨j, u', d', m', t', rfl, e', f', r', w', rfl⟩ := start wu hr
    rw [hl] at hu
    have lu : u'.length = k := by simpa using hu
    obtain ⟨e2, n2⟩ := f' (by omega)
    rw [lu] at e2
    have nj : i ≤ j := by
      by_cases q : i ≤ j
      · exact q
      · exact absurd n2 (none j (by omega) b d' m' e' t' e2)
    cases h with
    | @cons _ b' _ i' _ m0 _ l' e0 h0 h1 =>
      -- the list starts at i
      have le : i' ≤ i := by
        by_cases q : i' ≤ i
        · exact q
        · obtain ⟨vs, w2, n2⟩ := (hF k (by omega)).s d a t et
          obtain ⟨u2, w3, n3⟩ := PL.of w2
          exact absurd (by omega : m + t ≤ -1) (h1 i (by omega) d m e u2 t w3 (by omega))
      have ge : i ≤ i' := by
        by_cases q : i ≤ i'
        · exact q
        · obtain ⟨s2, w2, hs2, hl2⟩ := h0.sum
          obtain ⟨vs, w3, n3⟩ := w2.way
          obtain ⟨t2, e3, l3⟩ := (hF k (by omega)).c b' a vs s2 (iv _ (List.mem_of_getElem? e0)).2 w3 (by omega)
          exact absurd (by omega : m0 + t2 < 0) (none i' (by omega) a b' m0 e0 t2 e3)
      have ei : i' = i := by omega
      subst ei
      show (decide (j < i') || (decide (j = i') && lx u' l')) = false
      rw [decide_eq_false (by omega : ¬ j < i'), Bool.false_or]
      by_cases q : j = i'
      · subst q
        rw [e0] at e'
        injection e' with e'
        injection e' with e1 e2'
        injection e2' with e2' e3
        subst e1 e2' e3
        rw [decide_eq_true rfl, Bool.true_and]
        exact h0.least w' (by omega) (by omega)
      · rw [decide_eq_false q, Bool.false_and]
theorem ringL_none {C : List (Cond P)} {V : List P} (iv : In V C) (F : Nat → Tab P) (hF : ∀ k, k ≤ V.length → Exact C V k (F k))
    (few : ∀ k', k' < V.length → ∀ (j : Nat) (a' d' : P) (m' : Int), C[j]? = some (a', d', m') → ∀ t', F k' d' a' = some t' → ¬ m' + t' < 0) : RingL C none := fun r => by
  obtain ⟨k, hk, a, d, m, t, hc, e, l⟩ := (ring_iff iv F hF).mp r
  obtain ⟨i, hi, ei⟩ := List.mem_iff_getElem.mp hc
  exact few k hk i a d m (by rw [List.getElem?_eq_getElem hi, ei]) t e l
theorem RingL.ring {C : List (Cond P)} {x : Option (List Nat)} (h : RingL C x) : x ≠ none ↔ Ring C := by
  cases x with
  | none => exact ⟨fun z => absurd rfl z, fun z => absurd z h⟩
  | some l =>
    obtain ⟨⟨a, s, w, n⟩, _⟩ := h
    obtain ⟨vs, w2, _⟩ := w.way
    exact ⟨fun _ => ⟨a, vs, s, w2, n⟩, fun _ z => nomatch z⟩
/-- what the search for a chain tells, x the least sum -/
def ChainL (C : List (Cond P)) (a b : P) (x : Option Int) : Option (List Nat) → Prop
  | none => x = none
  | some l => ∃ t, x = some t ∧ PL C a b l t ∧ (∀ u, PL C a b u t → l.length ≤ u.length) ∧ ∀ u, PL C a b u t → u.length = l.length → lx u l = false
end KN

set_option Elab.async false
set_option linter.all false
set_option maxRecDepth 100000
set_option maxHeartbeats 4000000
namespace KM
open PySem PySem.Spec PyProof.Rows L2 GL
/-! the least lists: of a ring, of a chain -/
abbrev nI (n : Nat) : V := .int (n : Int)
/-- the search under way: so many positions found -/
structure LSt (rs : List Row) (p l : Pt) (m : Nat) (z : Int) (i : Nat) (told : List Nat) (p' : Pt) (tot : Int) : Prop where
  len : told.length = i
  ex : ∃ u t, KN.PL rs p' l u t ∧ u.length = m - i ∧ t ≤ z - tot
  to : ∀ l', KN.LL rs p' l (m - i) (z - tot) l' → KN.LL rs p l m z (told ++ l')
theorem LSt.start {rs : List Row} {p l : Pt} {m : Nat} {z : Int} (h : ∃ u t, KN.PL rs p l u t ∧ u.length = m ∧ t ≤ z) : LSt rs p l m z 0 [] p 0 :=
  ⟨rfl, by rw [Nat.sub_zero, Int.sub_zero]; exact h, fun l' h => by rw [Nat.sub_zero, Int.sub_zero] at h; exact h⟩
theorem LSt.step {rs : List Row} {V : List Pt} (iv : KN.In V rs) {F : KN.Tab Pt} {p l p' d : Pt} {m i j : Nat} {z tot mo : Int} {told : List Nat} (h : LSt rs p l m z i told p' tot) (hi : i < m) (x : KN.Exact rs V (m - 1 - i) F) (n : KN.Nxt rs F p' l (z - tot) j d mo) :
    LSt rs p l m z (i + 1) (told ++ [j]) d (tot + mo) := by
  have e1 : m - (i + 1) = m - 1 - i := by omega
  have e2 : m - i = (m - 1 - i) + 1 := by omega
  have e3 : z - (tot + mo) = z - tot - mo := by omega
  refine ⟨by simp [h.len], by rw [e1, e3]; exact KN.nxt_go x n, fun l' hl => ?_⟩
  rw [e1, e3] at hl
  have := h.to (j :: l') (by rw [e2]; exact n.ll iv x hl)
  simpa using this
theorem LSt.done {rs : List Row} {p l p' : Pt} {m : Nat} {z tot : Int} {told : List Nat} (h : LSt rs p l m z m told p' tot) : KN.LL rs p l m z told := by
  obtain ⟨u, t, w, n, ht⟩ := h.ex
  rw [Nat.sub_self] at n
  have e : u = [] := List.length_eq_zero_iff.mp n
  subst e
  cases w
  have := h.to [] (by rw [Nat.sub_self]; exact .nil (by omega))
  simpa using this
def spLl2 (P : Program) (w : World) (D : Addr) : Sp := fun vs H Q _ => ∃ (c t : Addr) (gs : List Str) (rs : List Row) (p l : Pt) (m : Nat) (z : Int), vs = [.ref c, .ref t, .int (m : Nat), .int z] ∧ ChAt P w D H c gs rs ∧ CFit gs rs ∧ H t = some (.tup [oV p, oV l]) ∧ p ∈ pts gs ∧
  m ≤ gs.length + 1 ∧ (∃ u t, KN.PL rs p l u t ∧ u.length = m ∧ t ≤ z) ∧ ∀ L H' told, H L = none → H' L = some (.lst (told.map nI)) → KN.LL rs p l m z told → Same H H' → Q (.ref L) H'
section
variable {P : Program} {w : World} {K : PySem.W.Frag} {mg : Str → Option Value} {base : Heap} {D : Addr}
theorem ok_ll2 {f : Addr} {fd : FuncData} (F : Fun K "_least_list" "Chains._least_list" (chm 6) f fd) (T : Bi mg) (C : Ch K mg D) :
    FnG P w K mg base CX0 1 f fd ["self", "ends", "many", "most_sum"] (spLl2 P w D) := by
  refine okG F scLl (fun vs H Q E h => ?_) (fun cdv A out s H vs Q E g hr h => ?_)
  · obtain ⟨c, t, gs, rs, p, l, m, z, rfl, _⟩ := h
    rfl
  · obtain ⟨c, t, gs, rs, p, l, m, z, rfl, ⟨pl, cs, ls, ts, ho, els, lts, tt⟩, fit, et, hp, hm, hex, q⟩ := h
    obtain ⟨dx, eo⟩ := ho.ob
    obtain ⟨as, ec, ra⟩ := ho.cs
    have hu := hr.units
    have l2 := fit.g.l2
    have lr := fit.n
    have iv := good_in fit.r
    have la : (as.map V.ref).length = rs.length := by rw [List.length_map]; exact Paired.length ra
    refine ⟨_, (pss_cons (ps_asg (pv 1) (pg_tup rfl (pgs_cons (pg_name (i := 4) scLl.nd rfl (.inl rfl)) (pgs_cons (pg_name (i := 5) scLl.nd rfl (.inl rfl)) pgs_nil))))
      (pss_cons (ps_par (i := 6) (j := 7) (by rfl) scLl.nd rfl rfl (by decide) rfl rfl (pa_cons (pe_lstL pa_nil) (pa_cons pe_int pa_nil)) (by rfl))
      (pss_cons (ps_for PassesOwn.never rfl (pi_revR (by rfl) T.reversed (prg_1 (by rfl) T.range (pv 2))) (pg_name (i := 8) scLl.nd rfl (.inl rfl))
      (pss_one (ps_for PassesOwn.never rfl (pi_enumA (by rfl) T.enumerate (pa_cons (pe_fld (pv 0) rfl) pa_nil)) (pg_tup rfl (pgs_cons (pg_name (i := 9) scLl.nd rfl (.inl rfl)) (pgs_cons (pg_tup rfl (pgs_cons (pg_name (i := 10) scLl.nd rfl (.inl rfl)) (pgs_cons (pg_name (i := 11) scLl.nd rfl (.inl rfl)) (pgs_cons (pg_name (i := 12) scLl.nd rfl (.inl rfl)) pgs_nil)))) pgs_nil)))
      (pss_one (ps_if (PW.pt (pw_and (pt_cmpR op_lt (pe_op op_add (pe_callB call_len_seq (by rfl) T.len PySem.boot_len (pa_cons (pv 6) pa_nil)) (pv 8)) (pv 2) (nomark _)) (pw_and (pt_cmpR (op_eqD hu) (pv 10) (pv 4) (nomark _)) (pw_and1 (pt_cmp (pc_oin (by have := hr.units; exact Nat.lt_of_le_of_lt (Nat.add_le_add_left (by decide) _) this) (pe_tupL (pa_cons (pv 11) (pa_cons (pv 5) pa_nil))) (pe_ix ix_list (pe_fld (pv 0) rfl) (pv 8) (fun _ _ => rfl)))))))) (pss_one (ps_if (pt_cmpR op_le (pe_op op_add (pe_op op_add (pv 7) (pv 12)) (pe_oget (by have := hr.units; exact Nat.lt_of_le_of_lt (Nat.add_le_add_left (by decide) _) this) (pe_ix ix_list (pe_fld (pv 0) rfl) (pv 8) (fun _ _ => rfl)) (pe_tupL (pa_cons (pv 11) (pa_cons (pv 5) pa_nil))) (fun _ _ => rfl))) (pv 3) (nomark _)) (pss_cons (ps_expr (pe_bm PySem.F.plainAttrs_list PySem.F.slot_list_append PySem.F.type_list_append mt_appL (pv 6) (pa_cons (pv 9) pa_nil)))
      (pss_one (ps_par (i := 4) (j := 7) (by rfl) scLl.nd rfl rfl (by decide) rfl rfl (pa_cons (pv 11) (pa_cons (pe_op op_add (pv 7) (pv 12)) pa_nil)) (by rfl)))) pss_nil)) pss_nil)))))
      (pss_one (ps_ret (pv 6)))))), ?_⟩
    refine ⟨_, rfl, t, _, rfl, SqT.of et, rfl, _, _, rfl, _, _, rfl, rfl, ?_⟩
    refine ⟨by show 0 ≤ sizeLine; decide, fun L H1 nL eL s1 => ⟨_, _, rfl, ?_⟩⟩
    refine ⟨_, rfl, m, rfl, by omega, by omega, by omega, by omega, ?_⟩
    refine for_rangeC (n := ((m : Int) - 0).toNat) (fun i σ' H' => ∃ (p' : Pt) (tot : Int) (x8 x9 x10 x11 x12 : Option V) (told : List Nat), σ' = [some (.ref c), some (.ref t), some (.int (m : Nat)), some (.int z), some (oV p'), some (oV l), some (.ref L), some (.int tot), x8, x9, x10, x11, x12] ∧
      p' ∈ pts gs ∧ H' L = some (.lst (told.map nI)) ∧ LSt rs p l m z i told p' tot ∧ Same H H') ?_ ?_ ?_
    · exact ⟨p, 0, _, _, _, _, _, [], rfl, hp, eL, .start hex, s1⟩
    · rintro i σ' H2 hi ⟨p', tot, x8, x9, x10, x11, x12, told, rfl, hp', eL2, lx, s2⟩
      refine ⟨_, rfl, c, D, dx, _, _, rfl, s2 _ _ eo, C.cl, C.nK, cfl_c, cs, as.map V.ref, rfl, ?_⟩
      have hil : i < m := by omega
      obtain ⟨tk, fk, hk, tak, xk⟩ := tab_at tt (k := m - 1 - i) (by omega)
      refine for_enum (H0 := H) (K := K) (.inl (SqL.of ec)) s2 (fun j σ' H' => ∃ (p3 : Pt) (tot3 : Int) (x9 x10 x11 x12 : Option V) (told3 : List Nat), σ' = [some (.ref c), some (.ref t), some (.int (m : Nat)), some (.int z), some (oV p3), some (oV l), some (.ref L), some (.int tot3), some (.int ((m - 1 - i : Nat) : Int)), x9, x10, x11, x12] ∧
        p3 ∈ pts gs ∧ H' L = some (.lst (told3.map nI)) ∧ Same H H' ∧
        ((LSt rs p l m z i told3 p3 tot3 ∧ ∀ j' < j, ∀ e n, rs[j']? = some (p3, e, n) → ∀ t, fk e l = some t → ¬ n + t ≤ z - tot3) ∨ LSt rs p l m z (i + 1) told3 p3 tot3)) ?_ ?_ ?_ ?_
      · refine ⟨p', tot, x9, x10, x11, x12, told, ?_, hp', eL2, s2, .inl ⟨lx, fun j' h => by omega⟩⟩
        have e : (0 : Int) + (((m : Int) - 0).toNat : Nat) - 1 + (i : Nat) * (-1) = ((m - 1 - i : Nat) : Int) := by omega
        rw [← e]
        rfl
      · rintro j σ' H' ⟨_, _, _, _, _, _, _, rfl, _, _, s3, _⟩
        exact s3
      · rintro j x σ' H3 H4 hj ⟨p3, tot3, _, _, _, _, told3, rfl, hp3, eL3, s3, st3⟩ ⟨Tp, y, rfl, nT, rfl, hy⟩
        obtain ⟨tr, r, rfl, er, et3⟩ := rows_at (rows_same ra s3) hy
        have hT : Same H3 (upd H3 Tp (.tup [.int (j : Nat), .ref tr])) := same_new (Same.refl' _) nT
        have s4 := s3.trans hT
        have eL4 := hT _ _ eL3
        have eT : (upd H3 Tp (.tup [.int (j : Nat), .ref tr])) Tp = some (.tup [.int (j : Nat), .ref tr]) := upd_same
        have et4 := hT _ _ et3
        generalize upd H3 Tp (.tup [.int (j : Nat), .ref tr]) = H4 at hT s4 eL4 eT et4
        have gr := fit.r r (List.mem_of_getElem? er)
        have pr1 := in_pts gr.one
        have pr2 := in_pts gr.two
        have l3 : told3.length = i ∨ told3.length = i + 1 := st3.imp (fun z => z.1.len) (fun z => z.len)
        -- this row is passed by
        have nx0 : (told3.length = i → ∀ t, r.1 = p3 → fk r.2.1 l = some t → ¬ r.2.2 + t ≤ z - tot3) → ∀ H', Same H4 H' → ∃ (p' : Pt) (tot : Int) (x9 x10 x11 x12 : Option V) (told' : List Nat), [some (.ref c), some (.ref t), some (.int (m : Nat)), some (.int z), some (oV p3), some (oV l), some (.ref L), some (.int tot3), some (.int ((m - 1 - i : Nat) : Int)), some (.int (j : Nat)), some (oV r.1), some (oV r.2.1), some (.int r.2.2)] =
            [some (.ref c), some (.ref t), some (.int (m : Nat)), some (.int z), some (oV p'), some (oV l), some (.ref L), some (.int tot), some (.int ((m - 1 - i : Nat) : Int)), x9, x10, x11, x12] ∧ p' ∈ pts gs ∧ H' L = some (.lst (told'.map nI)) ∧ Same H H' ∧
            ((LSt rs p l m z i told' p' tot ∧ ∀ j' < j + 1, ∀ e n, rs[j']? = some (p', e, n) → ∀ t, fk e l = some t → ¬ n + t ≤ z - tot) ∨ LSt rs p l m z (i + 1) told' p' tot) :=
          fun hno H' s' => ⟨p3, tot3, _, _, _, _, told3, rfl, hp3, s' _ _ eL4, s4.trans s', st3.imp (fun ⟨a, b⟩ => ⟨a, fun j' hj' e n ej t et => by
            by_cases c : j' = j
            · subst c
              rw [er] at ej
              have ej := Option.some.inj ej
              subst ej
              exact hno a.len t rfl et
            · exact b j' (by omega) e n ej t et⟩) id⟩
        have jlt : j < rs.length := by rw [la] at hj; exact hj
        have ilt : i < 5 := by omega
        have szl := sizeLine_eq
        refine ⟨Tp, _, rfl, SqT.of eT, rfl, _, _, rfl, _, _, rfl, tr, _, rfl, SqT.of et4, rfl, _, _, rfl, _, _, rfl, _, _, rfl, rfl, rfl, ?_⟩
        refine ⟨_, rfl, L, _, rfl, .inl (SqL.of eL4), _, rfl, _, _, rfl, rfl, _, rfl, _, _, rfl, rfl, _, rfl, ?_⟩
        refine ite2 (fun c0 => ?_) (fun c0 => iteF (nx0 (fun hl => absurd (decide_eq_true (by rw [List.length_map]; omega)) c0) _ (Same.refl' _)))
        have li : told3.length = i := by
          have := of_decide_eq_true c0
          rw [List.length_map] at this
          omega
        have st4 : LSt rs p l m z i told3 p3 tot3 ∧ ∀ j' < j, ∀ e n, rs[j']? = some (p3, e, n) → ∀ t, fk e l = some t → ¬ n + t ≤ z - tot3 := st3.resolve_right fun h => by have := h.len; omega
        refine ⟨_, rfl, _, rfl, oD r.1, oD p3, dp_o _, dp_o _, shaped_o fit.g _ gr.one, shaped_o fit.g _ (pts_ok hp3), _, rfl, ?_⟩
        rw [eqv_o]
        refine ite2 (fun c1 => ?_) (fun c1 => iteF (nx0 (fun _ t e => absurd (decide_eq_true e) c1) _ (Same.refl' _)))
        have e1 : r.1 = p3 := of_decide_eq_true c1
        refine ⟨_, rfl, _, rfl, by show 2 ≤ sizeLine; decide, fun t1 H5 n5 e5 s5 => ?_⟩
        have S5 := s4.trans s5
        refine ⟨_, rfl, c, D, dx, _, _, rfl, S5 _ _ eo, C.cl, C.nS, cfl_s, _, rfl, ls, _, _, _, rfl, rfl, SqL.of (S5 _ _ els), atI_map hk, ?_⟩
        refine ⟨tk, _, rfl, (tak.same S5).get e5, _, rfl, ?_⟩
        cases hf : fk r.2.1 l with
        | none => exact iteF (nx0 (fun _ t _ e => by rw [hf] at e; cases e) _ s5)
        | some s0 =>
          refine iteT ?_
          refine ⟨_, rfl, _, rfl, _, _, rfl, rfl, _, rfl, c, D, dx, _, _, rfl, S5 _ _ eo, C.cl, C.nS, cfl_s, _, rfl, ls, _, _, _, rfl, rfl, SqL.of (S5 _ _ els), atI_map hk, ?_⟩
          refine ⟨_, rfl, _, rfl, by show 2 ≤ sizeLine; decide, fun t2 H6 n6 e6 s6 => ?_⟩
          have S6 := S5.trans s6
          refine ⟨tk, _, rfl, by rw [← show ((some s0 : Option Int).map V.int) = some (V.int s0) from rfl, ← hf]; exact (tak.same S6).get e6, _, _, rfl, rfl, _, rfl, _, _, rfl, rfl, _, rfl, ?_⟩
          refine ite2 (fun c2 => ?_) (fun c2 => nx0 (fun _ t _ e => by
            rw [hf] at e
            cases e
            exact fun q => c2 (decide_eq_true (by omega))) _ (s5.trans s6))
          have le2 := of_decide_eq_true c2
          have eL6 := s6 _ _ (s5 _ _ eL4)
          refine ⟨_, rfl, .inl ⟨rfl, _, SqL.of eL6⟩, _, rfl, L, told3.map nI, .int (j : Nat), rfl, rfl, eL6, small1000 (by rw [List.length_map]; omega), fun H7 e7 b7 => ?_⟩
          refine ⟨_, rfl, _, rfl, _, rfl, _, _, rfl, rfl, _, _, rfl, ?_⟩
          have nx : KN.Nxt rs fk p3 l (z - tot3) j r.2.1 r.2.2 := ⟨by rw [er, ← e1], ⟨s0, hf, by omega⟩, st4.2⟩
          exact ⟨r.2.1, tot3 + r.2.2, _, _, _, _, told3 ++ [j], rfl, pr2, by rw [e7, List.map_append]; rfl, same_but S6 b7 nL, .inr (st4.1.step iv hil xk nx)⟩
      · rintro σ' H3 ⟨p3, tot3, _, _, _, _, told3, rfl, hp3, eL3, s3, st3⟩
        refine ⟨p3, tot3, _, _, _, _, _, told3, rfl, hp3, eL3, ?_, s3⟩
        rcases st3 with ⟨a, b⟩ | a
        · exfalso
          obtain ⟨u, t, w1, w2, w3⟩ := a.ex
          obtain ⟨i', d, mo, h1, t', h2, h3⟩ := KN.nxt_ex iv xk w1 (by omega) w3
          have := (List.getElem?_eq_some_iff.mp h1).1
          exact b i' (by rw [la]; exact this) d mo h1 t' h2 h3
        · exact a
    · rintro σ' H2 ⟨p', tot, _, _, _, _, _, told, rfl, hp', eL2, lx, s2⟩
      have e : ((m : Int) - 0).toNat = m := by omega
      rw [e] at lx
      exact ⟨_, rfl, q L H2 told nL eL2 lx.done s2⟩
def spRg2 (P : Program) (w : World) (D : Addr) : Sp := fun vs H Q _ => ∃ (c : Addr) (gs : List Str) (rs : List Row), vs = [.ref c] ∧ ChAt P w D H c gs rs ∧ CFit gs rs ∧
  (∀ L H' l, KN.RingL rs (some l) → l.length ≤ 5 → H L = none → H' L = some (.lst (l.map nI)) → Same H H' → Q (.ref L) H') ∧ (KN.RingL rs none → ∀ H', Same H H' → Q .non H')
theorem ok_ring2 {f : Addr} {fd : FuncData} (F : Fun K "ring" "Chains.ring" (chm 3) f fd) (T : Bi mg) (C : Ch K mg D) (LL : HasM P w K mg base D "_least_list" 1 ["self", "ends", "many", "most_sum"] (spLl2 P w D)) :
    FnG P w K mg base CX0 2 f fd ["self"] (spRg2 P w D) := by
  refine okG F scRg (fun vs H Q E h => ?_) (fun cdv A out s H vs Q E g hr h => ?_)
  · obtain ⟨c, gs, rs, rfl, _⟩ := h
    rfl
  · obtain ⟨c, gs, rs, rfl, ch, fit, qy, qn⟩ := h
    obtain ⟨pl, cs, ls, ts, ho, els, lts, tt⟩ := id ch
    obtain ⟨dx, eo⟩ := ho.ob
    obtain ⟨as, ec, ra⟩ := ho.cs
    obtain ⟨Fn, hF⟩ := tabs_fun tt
    have hr1 : Room 1 _ := hr
    have hu := hr.units
    have l2 := fit.g.l2
    have iv := good_in fit.r
    have la : (as.map V.ref).length = rs.length := by rw [List.length_map]; exact Paired.length ra
    have ex : ∀ k, k ≤ (pts gs).length → KN.Exact rs (pts gs) k (Fn k) := fun k hk => by
      rw [pts_len] at hk
      exact (hF k ts[k] (List.getElem?_eq_getElem (by omega))).2
    have pl1 := pts_len gs
    refine ⟨_, (pss_cons (ps_for PassesOwn.never rfl (pi_range2 (by rfl) T.range (pa_cons pe_int (pa_cons (pe_op op_add (pe_fld (pv 0) rfl) pe_int) pa_nil))) (pg_name (i := 1) scRg.nd rfl (.inl rfl))
      (pss_one (ps_for PassesOwn.never rfl (pi_enumA (by rfl) T.enumerate (pa_cons (pe_fld (pv 0) rfl) pa_nil)) (pg_tup rfl (pgs_cons (pg_name (i := 2) scRg.nd rfl (.inl rfl)) (pgs_cons (pg_tup rfl (pgs_cons (pg_name (i := 3) scRg.nd rfl (.inl rfl)) (pgs_cons (pg_name (i := 4) scRg.nd rfl (.inl rfl)) (pgs_cons (pg_name (i := 5) scRg.nd rfl (.inl rfl)) pgs_nil)))) pgs_nil)))
      (pss_one (ps_if (PW.pt (pw_and (pt_cmp (pc_oin (by have := hr.units; exact Nat.lt_of_le_of_lt (Nat.add_le_add_left (by decide) _) this) (pe_tupL (pa_cons (pv 4) (pa_cons (pv 3) pa_nil))) (pe_ix ix_list (pe_fld (pv 0) rfl) (pe_op op_sub (pv 1) pe_int) (fun _ _ => rfl)))) (pw_and1 (pt_cmpR op_lt (pe_op op_add (pv 5) (pe_oget (by have := hr.units; exact Nat.lt_of_le_of_lt (Nat.add_le_add_left (by decide) _) this) (pe_ix ix_list (pe_fld (pv 0) rfl) (pe_op op_sub (pv 1) pe_int) (fun _ _ => rfl)) (pe_tupL (pa_cons (pv 4) (pa_cons (pv 3) pa_nil))) (fun _ _ => rfl))) pe_int (nomark _))))) (pss_one (ps_ret (pe_hasM (n := 3) LL C.cl g hr1 rfl (pv 0) (pa_cons (pe_tupL (pa_cons (pv 3) (pa_cons (pv 3) pa_nil))) (pa_cons (pv 1) (pa_cons (pe_un un_neg pe_int) pa_nil)))))) pss_nil)))))
      (pss_one (ps_ret pe_non))), ?_⟩
    refine ⟨_, rfl, c, D, dx, _, _, rfl, eo, C.cl, C.nM, cfl_m, _, _, rfl, rfl, 1, _, rfl, ⟨by omega, by omega, by omega, by omega⟩, ?_⟩
    refine for_range (lo := 1) (n := (((gs.length + 1 : Nat) : Int) + 1 - 1).toNat) (fun i σ' H' => ∃ (x1 x2 x3 x4 x5 : Option V), σ' = [some (.ref c), x1, x2, x3, x4, x5] ∧ Same H H' ∧ ∀ k, k < i → ∀ (j : Nat) (a d : Pt) (m : Int), rs[j]? = some (a, d, m) → ∀ t, Fn k d a = some t → ¬ m + t < 0) ?_ ?_ ?_
    · exact ⟨_, _, _, _, _, rfl, Same.refl' _, fun k hk => by omega⟩
    · rintro i σ' H2 hi ⟨x1, x2, x3, x4, x5, rfl, s2, no⟩
      have hi5 : i < gs.length + 1 := by omega
      have hts : i < ts.length := by omega
      have hk : ts[i]? = some ts[i] := List.getElem?_eq_getElem hts
      obtain ⟨tak, _⟩ := hF i _ hk
      generalize ts[i] = tk at hk tak
      refine ⟨_, rfl, c, D, dx, _, _, rfl, s2 _ _ eo, C.cl, C.nK, cfl_c, cs, as.map V.ref, rfl, ?_⟩
      refine for_enum (H0 := H) (K := K) (.inl (SqL.of ec)) s2 (fun j σ' H' => ∃ (x2 x3 x4 x5 : Option V), σ' = [some (.ref c), some (.int (1 + (i : Nat))), x2, x3, x4, x5] ∧ Same H H' ∧ ∀ j', j' < j → ∀ (a d : Pt) (m : Int), rs[j']? = some (a, d, m) → ∀ t, Fn i d a = some t → ¬ m + t < 0) ?_ ?_ ?_ ?_
      · exact ⟨x2, x3, x4, x5, rfl, s2, fun j' h => by omega⟩
      · rintro j σ' H' ⟨_, _, _, _, rfl, s3, _⟩
        exact s3
      · rintro j x σ' H3 H4 hj ⟨_, _, _, _, rfl, s3, no3⟩ ⟨Tp, y, rfl, nT, rfl, hy⟩
        obtain ⟨tr, r, rfl, er, et3⟩ := rows_at (rows_same ra s3) hy
        have hT : Same H3 (upd H3 Tp (.tup [.int (j : Nat), .ref tr])) := same_new (Same.refl' _) nT
        have s4 := s3.trans hT
        have eT : (upd H3 Tp (.tup [.int (j : Nat), .ref tr])) Tp = some (.tup [.int (j : Nat), .ref tr]) := upd_same
        have et4 := hT _ _ et3
        generalize upd H3 Tp (.tup [.int (j : Nat), .ref tr]) = H4 at hT s4 eT et4
        have gr := fit.r r (List.mem_of_getElem? er)
        have szl := sizeLine_eq
        have e1 : (1 : Int) + (i : Nat) - 1 = (i : Nat) := by omega
        have more : (∀ t, Fn i r.2.1 r.1 = some t → ¬ r.2.2 + t < 0) → ∀ j', j' < j + 1 → ∀ (a d : Pt) (m : Int), rs[j']? = some (a, d, m) → ∀ t, Fn i d a = some t → ¬ m + t < 0 := by
          intro h j' hj' a d m hm t ht
          by_cases c : j' = j
          · subst c
            rw [er] at hm
            have e := Option.some.inj hm
            subst e
            exact h t ht
          · exact no3 j' (by omega) a d m hm t ht
        refine ⟨Tp, _, rfl, SqT.of eT, rfl, _, _, rfl, _, _, rfl, tr, _, rfl, SqT.of et4, rfl, _, _, rfl, _, _, rfl, _, _, rfl, rfl, rfl, ?_⟩
        refine ⟨_, rfl, _, rfl, by show 2 ≤ sizeLine; decide, fun t1 H5 n5 e5 s5 => ?_⟩
        have S5 := s4.trans s5
        refine ⟨_, rfl, c, D, dx, _, _, rfl, S5 _ _ eo, C.cl, C.nS, cfl_s, _, rfl, _, _, rfl, rfl, ls, _, _, _, rfl, rfl, SqL.of (S5 _ _ els), by rw [e1]; exact atI_map hk, ?_⟩
        refine ⟨tk, _, rfl, (tak.same S5).get e5, _, rfl, ?_⟩
        cases hf : Fn i r.2.1 r.1 with
        | none => exact iteF (iteF ⟨_, _, _, _, rfl, S5, more fun t e => by rw [hf] at e; cases e⟩)
        | some s0 =>
          refine iteT ?_
          refine ⟨_, rfl, _, rfl, c, D, dx, _, _, rfl, S5 _ _ eo, C.cl, C.nS, cfl_s, _, rfl, _, _, rfl, rfl, ls, _, _, _, rfl, rfl, SqL.of (S5 _ _ els), by rw [e1]; exact atI_map hk, ?_⟩
          refine ⟨_, rfl, _, rfl, by show 2 ≤ sizeLine; decide, fun t2 H6 n6 e6 s6 => ?_⟩
          have S6 := S5.trans s6
          refine ⟨tk, _, rfl, by rw [← show ((some s0 : Option Int).map V.int) = some (V.int s0) from rfl, ← hf]; exact (tak.same S6).get e6, _, _, rfl, rfl, _, _, rfl, rfl, _, rfl, ?_⟩
          refine ite2 (fun c0 => ?_) (fun c0 => ⟨_, _, _, _, rfl, S6, more fun t e => by rw [hf] at e; cases e; exact fun z => c0 (decide_eq_true z)⟩)
          have neg : r.2.2 + s0 < 0 := of_decide_eq_true c0
          refine ⟨_, rfl, c, dx, _, rfl, S6 _ _ eo, cfl_o (by decide +kernel) (by decide +kernel) (by decide +kernel) (by decide +kernel), ?_⟩
          refine ⟨_, rfl, _, rfl, by show 2 ≤ sizeLine; decide, fun t3 H7 n7 e7 s7 => ?_⟩
          have S7 := S6.trans s7
          have some_ : ∃ u t, KN.PL rs r.1 r.1 u t ∧ u.length = i + 1 ∧ t ≤ -1 := by
            obtain ⟨vs, w1, w2⟩ := (ex i (by omega)).s _ _ _ hf
            obtain ⟨u, w3, w4⟩ := KN.PL.of w1
            exact ⟨j :: u, r.2.2 + s0, .cons er w3, by simp; omega, by omega⟩
          refine ⟨_, rfl, _, rfl, rfl, rfl, c, t3, gs, rs, r.1, r.1, i + 1, -1, ?_, ch.same S7, fit, e7, in_pts gr.one, by omega, some_, fun L H8 told nL e8 ll s8 => ?_⟩
          · have e2 : (1 : Int) + (i : Nat) = ((i + 1 : Nat) : Int) := by omega
            rw [← e2]
          · refine qy L H8 told (KN.ringL_of iv Fn ex (k := i) (i := j) (by omega) (fun k' hk' j' a' d' m' e' t' h' => no k' hk' j' a' d' m' e' t' h') (fun j' hj' a' d' m' e' t' h' => no3 j' hj' a' d' m' e' t' h') er hf neg ll) ?_ (S7.free nL) e8 (S7.trans s8)
            obtain ⟨_, _, _, ll2⟩ := ll.sum
            omega
      · rintro σ' H3 ⟨x2, x3, x4, x5, rfl, s3, no3⟩
        rw [la] at no3
        refine ⟨_, x2, x3, x4, x5, rfl, s3, fun k hk j a d m hm t ht => ?_⟩
        by_cases e : k < i
        · exact no k e j a d m hm t ht
        · have e : k = i := by omega
          subst e
          exact no3 j (List.getElem?_eq_some_iff.mp hm).1 a d m hm t ht
    · rintro σ' H2 ⟨_, _, _, _, _, rfl, s2, no⟩
      exact qn (KN.ringL_none iv Fn ex fun k' hk' j a d m hm t ht => no k' (by omega) j a d m hm t ht) H2 s2
end
end KM

set_option Elab.async false
set_option linter.all false
set_option maxRecDepth 100000
set_option maxHeartbeats 4000000
namespace GL
open PySem PySem.Spec PyProof.Rows L2
/-- d.get(key, else), d a dict of pairs: it is looked at as one, whatever it holds -/
def IsPd (P : Program) (w : World) (H : Hp) (a : Addr) : Prop := ∃ kvs, PD P w H a kvs
def tOGet3 (P : Program) (w : World) (td ty tx : TE) : TE := fun σ H Q => td σ H fun x H1 => ∃ a, x = .ref a ∧ IsPd P w H1 a ∧ ty σ H1 fun y H2 => tx σ H2 fun z H3 => ∃ o, OGet P w H3 a y o ∧ Q (o.getD z) H3
section
variable {X : Cx} {o e f : Expr} {apos cpos : Pos} {td ty tx : TE}
theorem pe_oget3 (hu : X.A.units + 1 < cLine) (ho : PE X o td) (he : PE X e ty) (hf : PE X f tx) (m : M2 X o "get" apos e f cpos) : PE X (.Call (.Attribute o "get" apos) [e, f] [] cpos) (tOGet3 X.prog X.w td ty tx) := by
  constructor
  intro pins s σ H Q I h
  refine wpAny_Call_method m.base m.few m.line PySem.F.plainAttrs_dict PySem.F.slot_dict_get PySem.F.type_dict_get (thn (ho.run pins s σ H _ I h) ?_)
  rintro u s1 ⟨x, H1, I1, rx, a, rfl, ⟨xs0, g1⟩, q1⟩
  cases rx
  have tt : s1.TypeIs (.ref a) "dict" ∧ (∀ b, Value.ref a = .ref b → ∃ ob, s1.heap.get? b = some ob ∧ ob.dict = none) := by
    obtain ⟨_, _, xs, ys, _, _, _, _, dd⟩ := pd_of I1 g1
    refine ⟨dd.typeIs, fun b q => ?_⟩
    cases q
    obtain ⟨ob, _, _, h1, h2, _⟩ := dd
    exact ⟨ob, h1, h2.2.1⟩
  refine ⟨tt.1, tt.2, ?_⟩
  rw [m.trees]
  refine Calls.callWith_builtin rfl (Calls.evalArgs_plain (Calls.spliced_cons (thn (he.run pins s1 σ H1 _ I1 q1) ?_)))
  rintro iv s2 ⟨y, H2, I2, ry, q2⟩
  refine Calls.spliced_cons (thn (hf.run pins s2 σ H2 _ I2 q2) ?_)
  rintro fv s3 ⟨z, H3, I3, rz, ov, g, q3⟩
  exact Calls.spliced_nil (og_get2 hu I3 g ry rz fun w' s4 I4 rw' => ⟨_, H3, I4, rw', q3⟩)
end
end GL
namespace KM
open PySem PySem.Spec PyProof.Rows L2 GL
/-! the least list of the chains with the least sum -/
theorem TabAt.isPd {P : Program} {w : World} {H : Hp} {a : Addr} {f : KN.Tab Pt} {n : Nat} (h : TabAt P w H a f n) : IsPd P w H a := by
  obtain ⟨kvs, e, _⟩ := h
  exact ⟨kvs, e⟩
/-- the first of the counts -/
theorem first_count {n : Nat} {p : Nat → Bool} {k : Nat} {r : List Nat} (e : (List.range n).filter p = k :: r) : k < n ∧ p k = true ∧ ∀ j, j < k → p j = false := by
  have m : k ∈ (List.range n).filter p := by rw [e]; exact List.mem_cons_self ..
  obtain ⟨m1, m2⟩ := List.mem_filter.mp m
  refine ⟨List.mem_range.mp m1, m2, fun j hj => ?_⟩
  cases q : p j with
  | false => rfl
  | true =>
    have mj : j ∈ (List.range n).filter p := List.mem_filter.mpr ⟨List.mem_range.mpr (by have := List.mem_range.mp m1; omega), q⟩
    have pw : ((List.range n).filter p).Pairwise (· < ·) := List.Pairwise.filter _ List.pairwise_lt_range
    rw [e] at mj pw
    rcases List.mem_cons.mp mj with rfl | mj
    · omega
    · have := (List.pairwise_cons.mp pw).1 j mj
      omega
theorem range_filter_snoc {n : Nat} {p : Nat → Bool} : (List.range (n + 1)).filter p = (List.range n).filter p ++ (if p n = true then [n] else []) := by
  rw [List.range_succ, List.filter_append]
  congr 1
  cases h : p n <;> simp [h]
abbrev nCn : List Str := ["self", "first", "second", "least", "many", "sums", "counts"]
theorem scCn : FnScope nCn ["self", "first", "second"] (defScope (chm 5)) := ⟨rfl, rfl, rfl, by decide +kernel, rfl, by decide +kernel, by decide +kernel⟩
def spCn (P : Program) (w : World) (D : Addr) : Sp := fun vs H Q _ => ∃ (c : Addr) (gs : List Str) (rs : List Row) (a b : Pt), vs = [.ref c, oV a, oV b] ∧ ChAt P w D H c gs rs ∧ CFit gs rs ∧ a ∈ pts gs ∧ a ≠ b ∧ ¬ KN.Ring rs ∧
  (∀ H', KN.Least rs a b none → Same H H' → Q .non H') ∧ ∀ L H' l t, KN.Least rs a b (some t) → KN.ChainL rs a b (some t) (some l) → l.length ≤ 5 → H L = none → H' L = some (.lst (l.map nI)) → Same H H' → Q (.ref L) H'
section
variable {P : Program} {w : World} {K : PySem.W.Frag} {mg : Str → Option Value} {base : Heap} {D : Addr}
theorem ok_chain {f : Addr} {fd : FuncData} (F : Fun K "chain" "Chains.chain" (chm 5) f fd) (T : Bi mg) (C : Ch K mg D) (TI : HasM P w K mg base D "tightest" 1 ["self", "first", "second"] (spTi P w D))
    (LL : HasM P w K mg base D "_least_list" 1 ["self", "ends", "many", "most_sum"] (spLl2 P w D)) :
    FnG P w K mg base CX0 2 f fd ["self", "first", "second"] (spCn P w D) := by
  refine okG F scCn (fun vs H Q E h => ?_) (fun cdv A out s H vs Q E g hr h => ?_)
  · obtain ⟨c, gs, rs, a, b, rfl, _⟩ := h
    rfl
  · obtain ⟨c, gs, rs, a, b, rfl, ch, fit, ha, ne, nn, qn, qy⟩ := h
    obtain ⟨pl, cs, ls, ts, ho, els, lts, tt⟩ := id ch
    obtain ⟨dx, eo⟩ := ho.ob
    obtain ⟨Fn, hF⟩ := tabs_fun tt
    have hr1 : Room 1 _ := hr
    have hu := hr.units
    have l2 := fit.g.l2
    have iv := good_in fit.r
    have pl1 := pts_len gs
    have szl := sizeLine_eq
    have ex : ∀ k, k ≤ (pts gs).length → KN.Exact rs (pts gs) k (Fn k) := fun k hk => by
      rw [pts_len] at hk
      exact (hF k ts[k] (List.getElem?_eq_getElem (by omega))).2
    refine ⟨_, (pss_cons (ps_set (i := 3) scCn.nd rfl (.inr rfl) (pe_hasM (n := 2) TI C.cl g hr1 rfl (pv 0) (pa_cons (pv 1) (pa_cons (pv 2) pa_nil))))
      (pss_cons (ps_if (pt_cmpR op_isN (pv 3) pe_non (nomark _)) (pss_one (ps_ret pe_non)) pss_nil)
      (pss_cons (ps_setLc (i := 6) (own := [("many", 4), ("sums", 5)]) (g := gTup K 2 (gCons (gName 4) (gCons (gName 5) gNil))) (tt := tB (tOp rEq (tOGet3 P w (tVar 5) (tTupL (tCons (tVar 1) (tCons (tVar 2) tNil))) (tOp (rI0 fun i j => V.int (i + j)) (tVar 3) (tC (.int 1)))) (tVar 3))) (te := tVar 4) rfl scCn.nd rfl rfl (sw_true rfl rfl rfl (by decide +kernel)) (pi_enum (by rfl) T.enumerate (pa_cons (pe_fld (pv 0) rfl) pa_nil)) (blkOk_by (own := [("many", 4), ("sums", 5)]) (N := nCn) (sc := defScope (chm 5)) (by decide +kernel)) (fun _ _ _ _ _ => by exact (pg_tup rfl (pgs_cons (pg_name (i := 4) scCn.nd rfl (.inl rfl)) (pgs_cons (pg_name (i := 5) scCn.nd rfl (.inl rfl)) pgs_nil)))) (fun _ _ _ _ _ => by exact (pts_one (pt_cmpR op_eq (pe_oget3 (by have := hr.units; exact Nat.lt_of_le_of_lt (Nat.add_le_add_left (by decide) _) this) (pv 5) (pe_tupL (pa_cons (pv 1) (pa_cons (pv 2) pa_nil))) (pe_op op_add (pv 3) pe_int) ⟨rfl, rfl, rfl, rfl⟩) (pv 3) (nomark _)))) (fun _ _ _ _ _ => by exact (pv 4)))
      (pss_one (ps_ret (pe_hasM (n := 3) LL C.cl g hr1 rfl (pv 0) (pa_cons (pe_tupL (pa_cons (pv 1) (pa_cons (pv 2) pa_nil))) (pa_cons (pe_ix ix_list (pv 6) pe_int (fun _ _ => rfl)) (pa_cons (pv 3) pa_nil))))))))), ?_⟩
    refine ⟨_, rfl, c, dx, _, rfl, eo, cfl_o (by decide +kernel) (by decide +kernel) (by decide +kernel) (by decide +kernel), _, rfl, _, rfl, rfl, rfl, c, gs, rs, a, b, rfl, ch, fit, ha, nn, fun x H1 lx s1 => ?_⟩
    cases x with
    | none =>
      refine ⟨_, rfl, rfl, true, congrArg V.bl (decide_eq_true rfl), iteT ?_⟩
      exact qn H1 lx s1
    | some t =>
      refine ⟨_, rfl, rfl, false, congrArg V.bl (decide_eq_false (by intro z; cases z)), iteF ?_⟩
      have eo1 := s1 _ _ eo
      have els1 := s1 _ _ els
      refine ⟨_, rfl, c, D, dx, _, _, rfl, eo1, C.cl, C.nS, cfl_s, ls, ts.map V.ref, rfl, SqL.of els1, fun L nL => ?_⟩
      let pk : Nat → Bool := fun k => decide (Fn k a b = some t)
      refine lc_it (walk_enum (K := K) (a := ls) (xs := ts.map V.ref)) (fun i H' => Same H1 H' ∧ H' L = some (.lst (((List.range i).filter pk).map nI))) ?_ ?_ ?_ ?_
      · exact ⟨same_new (Same.refl' _) nL, upd_same⟩
      · exact fun i H' _ ⟨z, _⟩ => SqL.of (z _ _ els1)
      · rintro i x J1 J2 hi ⟨s7, e7⟩ ⟨Tp, u, v, rfl, nT, rfl, ea, eb⟩
        cases ea
        obtain ⟨tk, hk, rfl⟩ := get_map eb
        obtain ⟨tak, _⟩ := hF i tk hk
        have hi4 : i < ts.length := (List.getElem?_eq_some_iff.mp hk).1
        have hT : Same J1 (upd J1 Tp (.tup [.int (i : Nat), .ref tk])) := same_new (Same.refl' _) nT
        have eT : (upd J1 Tp (.tup [.int (i : Nat), .ref tk])) Tp = some (.tup [.int (i : Nat), .ref tk]) := upd_same
        have s8 := s7.trans hT
        have e8 := hT _ _ e7
        generalize upd J1 Tp (.tup [.int (i : Nat), .ref tk]) = J2 at hT eT s8 e8
        refine ⟨Tp, _, rfl, SqT.of eT, rfl, _, _, rfl, _, _, rfl, rfl, rfl, ?_⟩
        have S8 := s1.trans s8
        refine ⟨_, rfl, tk, rfl, (tak.same S8).isPd, _, rfl, _, rfl, by show 2 ≤ sizeLine; decide, fun t1 J3 n3 e3 s3 => ?_⟩
        refine ⟨_, rfl, _, _, rfl, rfl, _, (tak.same (S8.trans s3)).get e3, _, rfl, ?_⟩
        have e9 := s3 _ _ e8
        have S9 := s8.trans s3
        rw [range_filter_snoc]
        have val : ((Fn i a b).map V.int).getD (V.int (t + 1)) = V.int ((Fn i a b).getD (t + 1)) := by cases Fn i a b <;> rfl
        rw [val]
        refine ⟨rfl, _, rfl, ?_⟩
        have dec : decide (V.int ((Fn i a b).getD (t + 1)) = V.int t) = pk i := by
          show _ = decide (Fn i a b = some t)
          cases hf : Fn i a b with
          | none =>
            rw [decide_eq_false (by intro z; injection z with z; simp at z; omega), decide_eq_false (by intro z; cases z)]
          | some t0 =>
            show decide (V.int t0 = V.int t) = decide (some t0 = some t)
            by_cases q : t0 = t
            · subst q; simp
            · rw [decide_eq_false (by intro z; injection z with z; exact q z), decide_eq_false (by intro z; exact q (Option.some.inj z))]
        show if decide (V.int ((Fn i a b).getD (t + 1)) = V.int t) = true then _ else _
        rw [dec]
        cases hp : pk i with
        | false =>
          refine iteF ⟨S9, ?_⟩
          rw [if_neg (by simp), List.append_nil]
          exact e9
        | true =>
          refine iteT ?_
          refine ⟨_, rfl, _, e9, small1000 (by rw [List.length_map]; have := List.length_filter_le pk (List.range i); rw [List.length_range] at this; omega), same_but S9 But.refl.upd nL, ?_⟩
          rw [upd_same, if_pos rfl, List.map_append]
          rfl
      · rintro J1 ⟨s7, e7⟩
        rw [List.length_map, lts] at e7
        obtain ⟨⟨vs0, w0⟩, lst0⟩ := lx
        have S7 := s1.trans s7
        -- some table has it
        have some_ : ∃ k, k < gs.length + 2 ∧ pk k = true := by
          obtain ⟨us, t', w', l1, l2'⟩ := KN.short iv (KN.noNeg_iff.mpr nn) vs0.length (Nat.le_refl _) ha w0
          have h3 := lst0 _ _ w'
          obtain ⟨u, e, l3⟩ := (ex us.length (by omega)).c a b us t' ha w' rfl
          obtain ⟨vs4, w4, _⟩ := (ex us.length (by omega)).s a b u e
          have h4 := lst0 _ _ w4
          have e5 : u = t := by omega
          exact ⟨us.length, by omega, decide_eq_true (by rw [e, e5])⟩
        cases hc : (List.range (gs.length + 2)).filter pk with
        | nil =>
          obtain ⟨k, hk, pkk⟩ := some_
          have : k ∈ (List.range (gs.length + 2)).filter pk := List.mem_filter.mpr ⟨List.mem_range.mpr hk, pkk⟩
          rw [hc] at this
          cases this
        | cons k r =>
          obtain ⟨h1, h2, h3⟩ := first_count hc
          rw [hc] at e7
          have ek : Fn k a b = some t := of_decide_eq_true h2
          obtain ⟨vs5, w5, n5⟩ := (ex k (by omega)).s a b t ek
          -- a count in the tables is at most the places' number
          have k1 : k ≤ gs.length + 1 := by omega
          refine ⟨_, rfl, c, dx, _, rfl, s7 _ _ eo1, cfl_o (by decide +kernel) (by decide +kernel) (by decide +kernel) (by decide +kernel), ?_⟩
          refine ⟨_, rfl, _, rfl, by show 2 ≤ sizeLine; decide, fun t3 J4 n4 e4 s4 => ?_⟩
          refine ⟨_, rfl, L, _, 0, .int (k : Nat), rfl, rfl, SqL.of (s4 _ _ e7), (by rw [List.map_cons]; unfold atI ixN; rw [if_pos (by omega), if_pos (by simp)]; rfl), _, rfl, rfl, rfl, ?_⟩
          have S4 := S7.trans s4
          have some5 : ∃ u t', KN.PL rs a b u t' ∧ u.length = k ∧ t' ≤ t := by
            obtain ⟨u, w6, n6⟩ := KN.PL.of w5
            exact ⟨u, t, w6, by omega, Int.le_refl _⟩
          refine ⟨c, t3, gs, rs, a, b, k, t, rfl, ch.same S4, fit, e4, ha, k1, some5, fun L2 J5 told n8 e8 ll s8 => ?_⟩
          obtain ⟨s9, p9, h9, n9⟩ := ll.sum
          have e9 : s9 = t := by
            obtain ⟨vs9, w9, _⟩ := p9.way
            have := lst0 _ _ w9
            omega
          subst e9
          refine qy L2 J5 told s9 ⟨⟨vs0, w0⟩, lst0⟩ ⟨s9, rfl, p9, fun u w6 => ?_, fun u w6 hu => ll.least w6 (Int.le_refl _) (by omega)⟩ (by omega) (S4.free n8) e8 (S4.trans s8)
          obtain ⟨vs7, w7, n7⟩ := w6.way
          by_cases q : u.length < k
          · obtain ⟨t6, e6, l6⟩ := (ex u.length (by omega)).c a b vs7 s9 ha w7 n7
            obtain ⟨vs8, w8, _⟩ := (ex u.length (by omega)).s a b t6 e6
            have := lst0 _ _ w8
            have e10 : t6 = s9 := by omega
            have := h3 u.length q
            rw [show pk u.length = decide (Fn u.length a b = some s9) from rfl, e6, e10, decide_eq_true rfl] at this
            cases this
          · omega
end
end KM

set_option Elab.async false
set_option linter.all false
set_option maxRecDepth 100000
set_option maxHeartbeats 4000000
namespace KM
open PySem PySem.Spec PyProof.Rows L2 GL
/-! Ratios of whole numbers -/
abbrev rm (i : Nat) : Stmt := inClass (top 35) i
abbrev sRo : Stmt := top 32
abbrev sNu : Stmt := top 31
structure Rc (K : PySem.W.Frag) (mg : Str → Option Value) (R : Addr) : Prop where
  gR : mg "Ratio" = some (.ref R)
  cl : Cls K R
  nT : NoAttr K R "_top"
  nB : NoAttr K R "_bottom"
  hc : PySem.W.findIn K (.ref R) "__class__" = some (some (.builtin "object.__class__"))
  hn : PySem.W.specialIn K (.builtin "object.__class__") "__get__" = some (some (.builtin "getset_descriptor.__get__"))
  ht : PySem.W.takesIn K (.builtin "object.__class__") = some true
  hm : PySem.W.mroIn K R (.type "object") = some true
  ki : PySem.W.kitOne K (.type "int") (.ref R) = some false
  ik : PySem.W.kitOne K (.ref R) (.type "int") = some false
  gcd : mg "gcd" = some (.builtin "math.gcd")
def rfl_ (i : Int) : List (Str × V) := putF "_bottom" (.int 1) (putF "_top" (.int i) [])
theorem rfl_t {i : Int} : (rfl_ i).lookup ("_top" : Str) = some (V.int i) := by
  unfold rfl_
  rw [lookup_putF, if_neg (by decide), lookup_putF, if_pos rfl]
theorem rfl_b {i : Int} : (rfl_ i).lookup ("_bottom" : Str) = some (V.int 1) := by
  unfold rfl_
  rw [lookup_putF, if_pos rfl]
theorem rfl_o {i : Int} {m : Str} (h1 : ¬ m = "_bottom") (h2 : ¬ m = "_top") : (rfl_ i).lookup m = none := by
  unfold rfl_
  rw [lookup_putF, if_neg h1, lookup_putF, if_neg h2]
  rfl
/-- the Ratio i stands at x -/
def RatAt (R : Addr) (H : Hp) (x : Addr) (i : Int) : Prop := ∃ dx, H x = some (.ins R dx (rfl_ i))
theorem RatAt.same {R : Addr} {H H' : Hp} {x : Addr} {i : Int} (h : RatAt R H x i) (s : Same H H') : RatAt R H' x i := by
  obtain ⟨dx, e⟩ := h
  exact ⟨dx, s _ _ e⟩
/-- a property that tells an attribute -/
structure HasP (P : Program) (w : World) (K : PySem.W.Frag) (mg : Str → Option Value) (base : Heap) (C : Addr) (nm fld : Str) : Prop where
  ex : ∃ p g fd, PropOf K C nm p g ∧ FnOk P w K mg base CX0 1 g fd ["self"] (getSp C fld) ∧ Binds K fd ["self"] []
theorem pe_hasP {X : Cx} {C : Addr} {f fld : Str} {e : Expr} {pos : Pos} {ta : TE} (h : HasP X.prog X.w X.K X.mg X.base C f fld) (c : Cls X.K C) (hr : Room 2 X.A) (he : PE X e ta) (hab : attributeBase e f X.env (eval e X.env) = eval e X.env := by rfl) :
    PE X (.Attribute e f pos) (tProp C (getSp C fld) [] E0 ta) := by
  obtain ⟨p, g, fd, hp, F, hb⟩ := h.ex
  exact pe_prop he c hp F hr hb .nil pass0 hab
def spRi (R : Addr) : Sp := fun vs H Q _ => ∃ (x dx : Addr) (i : Int), vs = [.ref x, .int i, .int 1] ∧ H x = some (.ins R dx []) ∧ ∀ H', RatAt R H' x i → But x H H' → Q .non H'
def spRo (R : Addr) : Sp := fun vs H Q _ => (∃ (x : Addr) (i : Int), vs = [.ref x] ∧ RatAt R H x i ∧ ∀ H', Same H H' → Q (.ref x) H') ∨ (∃ i : Int, vs = [.int i] ∧ ∀ x H', H x = none → RatAt R H' x i → Same H H' → Q (.ref x) H')
def spAm (R : Addr) : Sp := fun vs H Q _ => ∃ (x : Addr) (i m : Int), vs = [.ref x, .int m] ∧ RatAt R H x i ∧ ∀ H', Same H H' → Q (.bl (decide (i ≤ m))) H'
def spRa (R : Addr) (op : Int → Int → Int) : Sp := fun vs H Q _ => ∃ (x y : Addr) (i j : Int), vs = [.ref x, .ref y] ∧ RatAt R H x i ∧ RatAt R H y j ∧ ∀ z H', H z = none → RatAt R H' z (op i j) → Same H H' → Q (.ref z) H'
def reprR (i : Int) : Str := ("Ratio(" : Str) ++ (toString i : Str) ++ (", " : Str) ++ (toString (1 : Int) : Str) ++ (")" : Str)
def spRr (R : Addr) : Sp := fun vs H Q _ => ∃ (x : Addr) (i : Int), vs = [.ref x] ∧ RatAt R H x i ∧ i.natAbs ≤ 100000 ∧ ∀ H', Same H H' → Q (.str (reprR i)) H'
def spNuR (R : Addr) : Sp := fun vs H Q _ => ∃ (x : Addr) (i : Int), vs = [.ref x] ∧ RatAt R H x i ∧ ∀ H', Same H H' → Q (.bl true) H'
def spIntR (R : Addr) : Sp := fun vs H Q _ => ∃ (x : Addr) (i : Int), vs = [.ref x] ∧ RatAt R H x i ∧ ∀ H', Same H H' → Q (.bl false) H'
theorem scRi : FnScope ["self", "top", "bottom", "divisor"] ["self", "top", "bottom"] (defScope (rm 0)) := ⟨rfl, rfl, rfl, by decide +kernel, rfl, by decide +kernel, by decide +kernel⟩
theorem scRo : FnScope ["value"] ["value"] (defScope sRo) := ⟨rfl, rfl, rfl, by decide +kernel, rfl, by decide +kernel, by decide +kernel⟩
theorem scNu : FnScope ["value"] ["value"] (defScope sNu) := ⟨rfl, rfl, rfl, by decide +kernel, rfl, by decide +kernel, by decide +kernel⟩
theorem scAm : FnScope ["self", "other", "right"] ["self", "other"] (defScope (rm 9)) := ⟨rfl, rfl, rfl, by decide +kernel, rfl, by decide +kernel, by decide +kernel⟩
theorem scAd : FnScope ["self", "other", "right"] ["self", "other"] (defScope (rm 10)) := ⟨rfl, rfl, rfl, by decide +kernel, rfl, by decide +kernel, by decide +kernel⟩
theorem scSu : FnScope ["self", "other", "right"] ["self", "other"] (defScope (rm 12)) := ⟨rfl, rfl, rfl, by decide +kernel, rfl, by decide +kernel, by decide +kernel⟩
theorem scRr : FnScope ["self"] ["self"] (defScope (rm 19)) := ⟨rfl, rfl, rfl, by decide +kernel, rfl, by decide +kernel, by decide +kernel⟩
theorem q_rat {R : Addr} {Hc : Hp} {W : Addr → Hp → Prop} {i : Int} (h : ∀ x H', Hc x = none → RatAt R H' x i → Same Hc H' → W x H') :
    ∀ x dx, Hc x = none → Hc dx = none → dx ≠ x → spRi R [.ref x, .int i, .int 1] (upd (upd Hc dx (.own x)) x (.ins R dx [])) (fun v H3 => v = .non ∧ W x H3) E0 := by
  intro x dx nx ndx nex
  refine ⟨x, dx, i, rfl, upd_same, fun H' rt b => ⟨rfl, h x H' nx rt fun a o e => b _ _ (ne_of_none e nx) ?_⟩⟩
  rw [upd_ne (ne_of_none e nx), upd_ne (ne_of_none e ndx)]
  exact e
section
variable {P : Program} {w : World} {K : PySem.W.Frag} {mg : Str → Option Value} {base : Heap} {R : Addr}
theorem ok_rinit {f : Addr} {fd : FuncData} (F : FunD K "__init__" "Ratio.__init__" (defArgs (rm 0)) (defBody (rm 0)) (defScope (rm 0)) [.int 1] [] f fd) (T : Bi mg) (C : Rc K mg R) (I : Has P w K mg base "is_integer" 1 ["value"] spInt) :
    FnG P w K mg base CX0 2 f fd ["self", "top", "bottom"] (spRi R) := by
  refine okGD F scRi (fun vs H Q E h => ?_) (fun cdv A out s H vs Q E g hr h => ?_)
  · obtain ⟨x, dx, i, rfl, _⟩ := h
    rfl
  · obtain ⟨x, dx, i, rfl, hx, q⟩ := h
    have hr1 : Room 1 _ := hr
    refine ⟨_, (pss_cons (ps_if (pt_not (pt_val (pe_has I g hr1 (by rfl) (pa_cons (pv 1) pa_nil)))) (pss_one L2.ps_never) pss_nil)
      (pss_cons (ps_if (PW.pt (pw_or (pt_not (pt_val (pe_has I g hr1 (by rfl) (pa_cons (pv 2) pa_nil)))) (pw_or1 (pt_cmpR op_eq (pv 2) pe_int (nomark _))))) (pss_one L2.ps_never) pss_nil)
      (pss_cons (ps_set (i := 3) scRi.nd rfl (.inl rfl) (pe_callBfun cr_gcd (by rfl) C.gcd (pa_cons (pv 1) (pa_cons (pv 2) pa_nil))))
      (pss_cons (ps_if (pt_cmpR op_lt (pv 2) pe_int (nomark _)) (pss_one (ps_set (i := 3) scRi.nd rfl (.inl rfl) (pe_un un_neg (pv 3)))) pss_nil)
      (pss_cons (ps_fld (pv 0) (pe_op op_fdiv (pv 1) (pv 3)) rfl)
      (pss_one (ps_fld (pv 0) (pe_op op_fdiv (pv 2) (pv 3)) rfl))))))), ?_⟩
    refine ⟨_, rfl, rfl, rfl, i, rfl, fun H1 s1 => ⟨_, rfl, iteF ?_⟩⟩
    refine ⟨_, rfl, rfl, rfl, 1, rfl, fun H2 s2 => ⟨_, rfl, iteF ?_⟩⟩
    refine ⟨_, rfl, rfl, _, rfl, ?_⟩
    rw [decide_eq_false (by intro z; injection z with z; omega)]
    refine iteF ?_
    refine ⟨_, rfl, _, rfl, i, 1, rfl, ?_⟩
    rw [show (Nat.gcd i.natAbs (1 : Int).natAbs) = 1 from Nat.gcd_one_right _]
    refine ⟨_, rfl, _, _, rfl, rfl, _, rfl, ?_⟩
    rw [decide_eq_false (by omega)]
    refine iteF ?_
    have hx2 := s2 _ _ (s1 _ _ hx)
    refine ⟨_, rfl, _, rfl, _, _, rfl, rfl, ⟨by omega, by omega⟩, ?_⟩
    refine ⟨_, rfl, x, R, dx, _, rfl, hx2, C.cl, C.nT, by show 0 < 1000; decide, ?_⟩
    refine mk_upd fun H3 x3 b3 => ?_
    refine ⟨_, rfl, _, rfl, _, _, rfl, rfl, ⟨by omega, by omega⟩, ?_⟩
    refine ⟨_, rfl, x, R, dx, _, rfl, x3, C.cl, C.nB, by show 1 < 1000; decide, ?_⟩
    refine mk_upd fun H4 x4 b4 => ?_
    refine q H4 ⟨dx, ?_⟩ (((But.of (s1.trans s2)).trans b3).trans b4)
    rw [x4]
    unfold rfl_
    have e1 : ((1 : Nat) : Int) = 1 := rfl
    rw [e1]
    dsimp only
    rw [Int.ediv_one, Int.ediv_one]
theorem ok_intR {f : Addr} {fd : FuncData} (F : Fun K "is_integer" "is_integer" sInt f fd) (T : Bi mg) (C : Rc K mg R) : FnG P w K mg base CX0 1 f fd ["value"] (spIntR R) := by
  refine okG F scInt (fun vs H Q E h => ?_) (fun cdv A out s H vs Q E g hr h => ?_)
  · obtain ⟨x, i, rfl, _⟩ := h
    rfl
  · obtain ⟨x, i, rfl, ⟨dx, ex⟩, q⟩ := h
    refine ⟨_, (pss_one (ps_ret (pe_and (pe_callB call_isi (by rfl) T.isinstance (by decide +kernel) (pa_cons (pv 0) (pa_cons (pe_bltn (v := .ty "int") (u := .type "int") (by rfl) T.int (by decide +kernel) rfl) pa_nil))) (pe_one (pe_not (pe_callB call_isi (by rfl) T.isinstance (by decide +kernel) (pa_cons (pv 0) (pa_cons (pe_bltn (v := .ty "bool") (u := .type "bool") (by rfl) T.bool (by decide +kernel) rfl) pa_nil)))))))), ?_⟩
    exact ⟨_, rfl, .ref x, .ty "int", .ref R, .type "int", false, rfl, .ty "int", .base (.ins ex C.cl C.hc C.hn C.ht C.hm), C.ik, false, rfl, q _ (Same.refl' _)⟩
theorem ok_numR {f : Addr} {fd : FuncData} (F : Fun K "is_number" "is_number" sNu f fd) (T : Bi mg) (C : Rc K mg R) (I : Has P w K mg base "is_integer" 1 ["value"] (spIntR R)) : FnG P w K mg base CX0 2 f fd ["value"] (spNuR R) := by
  refine okG F scNu (fun vs H Q E h => ?_) (fun cdv A out s H vs Q E g hr h => ?_)
  · obtain ⟨x, i, rfl, _⟩ := h
    rfl
  · obtain ⟨x, i, rfl, rt, q⟩ := h
    have hr1 : Room 1 _ := hr
    refine ⟨_, (pss_one (ps_ret (pe_or (pe_has I g hr1 (by rfl) (pa_cons (pv 0) pa_nil)) (pe_one (pe_callB call_isi (by rfl) T.isinstance (by decide +kernel) (pa_cons (pv 0) (pa_cons (pe_glob (v := .ref R) (by rfl) C.gR rfl) pa_nil))))))), ?_⟩
    refine ⟨_, rfl, rfl, rfl, x, i, rfl, rt, fun H1 s1 => ⟨false, rfl, ?_⟩⟩
    obtain ⟨dx, ex⟩ := rt.same s1
    exact ⟨_, rfl, .ref x, .ref R, .ref R, .ref R, true, rfl, .own R, .base (.ins ex C.cl C.hc C.hn C.ht C.hm), kit_own, q _ s1⟩
theorem ok_ratio_of {f : Addr} {fd : FuncData} (F : Fun K "ratio_of" "ratio_of" sRo f fd) (T : Bi mg) (C : Rc K mg R) (MK : HasC P w K mg base R 2 ["self", "top", "bottom"] (spRi R) 1 [] (fun vs _ => vs ++ [.int 1])) :
    FnG P w K mg base CX0 4 f fd ["value"] (spRo R) := by
  refine okG F scRo (fun vs H Q E h => ?_) (fun cdv A out s H vs Q E g hr h => ?_)
  · rcases h with ⟨x, i, rfl, _⟩ | ⟨i, rfl, _⟩ <;> rfl
  · have hr3 : Room 3 _ := hr
    rcases h with ⟨x, i, rfl, ⟨dx, ex⟩, q⟩ | ⟨i, rfl, q⟩
    · refine ⟨_, (pss_cons (ps_if (pt_val (pe_callB call_isi (by rfl) T.isinstance (by decide +kernel) (pa_cons (pv 0) (pa_cons (pe_glob (v := .ref R) (by rfl) C.gR rfl) pa_nil)))) (pss_one (ps_ret (pv 0))) pss_nil)
      (pss_one (ps_ret (pe_hasC MK g hr3 (by rfl) C.gR (pa_cons (pv 0) pa_nil) pk_nil)))), ?_⟩
      exact ⟨_, rfl, .ref x, .ref R, .ref R, .ref R, true, rfl, .own R, .base (.ins ex C.cl C.hc C.hn C.ht C.hm), kit_own, _, rfl, iteT ⟨_, rfl, q _ (Same.refl' _)⟩⟩
    · refine ⟨_, (pss_cons (ps_if (pt_val (pe_callB call_isi (by rfl) T.isinstance (by decide +kernel) (pa_cons (pv 0) (pa_cons (pe_glob (v := .ref R) (by rfl) C.gR rfl) pa_nil)))) (pss_one (ps_ret (pv 0))) pss_nil)
      (pss_one (ps_ret (pe_hasC MK g hr3 (by rfl) C.gR (pa_cons (pv 0) pa_nil) pk_nil)))), ?_⟩
      refine ⟨_, rfl, .int i, .ref R, .type "int", .ref R, false, rfl, .own R, .base (.int i), C.ki, _, rfl, iteF ?_⟩
      refine ⟨_, rfl, rfl, rfl, ?_⟩
      exact q_rat fun x H' n rt s' => q x H' n rt s'
theorem ok_atmost {f : Addr} {fd : FuncData} (F : Fun K "is_at_most" "Ratio.is_at_most" (rm 9) f fd) (T : Bi mg) (C : Rc K mg R) (RO : Has P w K mg base "ratio_of" 4 ["value"] (spRo R)) (PT : HasP P w K mg base R "top" "_top") (PB : HasP P w K mg base R "bottom" "_bottom") :
    FnG P w K mg base CX0 5 f fd ["self", "other"] (spAm R) := by
  refine okG F scAm (fun vs H Q E h => ?_) (fun cdv A out s H vs Q E g hr h => ?_)
  · obtain ⟨x, i, m, rfl, _⟩ := h
    rfl
  · obtain ⟨x, i, m, rfl, ⟨dx, ex⟩, q⟩ := h
    have hr4 : Room 4 _ := hr
    have hr2 : Room 2 _ := hr.mono (by decide)
    refine ⟨_, (pss_cons (ps_set (i := 2) scAm.nd rfl (.inl rfl) (pe_has RO g hr4 (by rfl) (pa_cons (pv 1) pa_nil)))
      (pss_one (ps_ret (pe_cmpR op_le (pe_op op_mul (pe_fld (pv 0) rfl) (pe_hasP PB C.cl hr2 (pv 2))) (pe_op op_mul (pe_hasP PT C.cl hr2 (pv 2)) (pe_fld (pv 0) rfl)) (nomark _))))), ?_⟩
    refine ⟨_, rfl, rfl, rfl, .inr ⟨m, rfl, fun y H1 n1 ⟨dy, ey⟩ s1 => ?_⟩⟩
    have ex1 := s1 _ _ ex
    refine ⟨_, rfl, x, R, dx, _, _, rfl, ex1, C.cl, C.nT, rfl_t, _, rfl, y, dy, _, rfl, ey, y, dy, _, _, rfl, ey, rfl_b, _, _, rfl, rfl, .inr ⟨by decide, by decide⟩, ?_⟩
    refine ⟨_, rfl, y, dy, _, rfl, ey, y, dy, _, _, rfl, ey, rfl_t, _, rfl, x, R, dx, _, _, rfl, ex1, C.cl, C.nB, rfl_b, _, _, rfl, rfl, .inr ⟨by decide, by decide⟩, _, _, rfl, rfl, ?_⟩
    show Q (V.bl (decide (i * 1 ≤ m * 1))) H1
    rw [Int.mul_one, Int.mul_one]
    exact q H1 s1
theorem ok_radd {f : Addr} {fd : FuncData} (F : Fun K "__add__" "Ratio.__add__" (rm 10) f fd) (T : Bi mg) (C : Rc K mg R) (RO : Has P w K mg base "ratio_of" 4 ["value"] (spRo R)) (PT : HasP P w K mg base R "top" "_top") (PB : HasP P w K mg base R "bottom" "_bottom")
    (MK2 : HasC P w K mg base R 2 ["self", "top", "bottom"] (spRi R) 2 [] (fun vs _ => vs)) :
    FnG P w K mg base CX0 5 f fd ["self", "other"] (spRa R fun i j => i + j) := by
  refine okG F scAd (fun vs H Q E h => ?_) (fun cdv A out s H vs Q E g hr h => ?_)
  · obtain ⟨x, y, i, j, rfl, _⟩ := h
    rfl
  · obtain ⟨x, y, i, j, rfl, ⟨dx, ex⟩, ry, q⟩ := h
    have hr4 : Room 4 _ := hr
    have hr3 : Room 3 _ := hr.mono (by decide)
    have hr2 : Room 2 _ := hr.mono (by decide)
    refine ⟨_, (pss_cons (ps_set (i := 2) scAd.nd rfl (.inl rfl) (pe_has RO g hr4 (by rfl) (pa_cons (pv 1) pa_nil)))
      (pss_one (ps_ret (pe_hasC MK2 g hr3 (by rfl) C.gR (pa_cons (pe_op op_add (pe_op op_mul (pe_fld (pv 0) rfl) (pe_hasP PB C.cl hr2 (pv 2))) (pe_op op_mul (pe_hasP PT C.cl hr2 (pv 2)) (pe_fld (pv 0) rfl))) (pa_cons (pe_op op_mul (pe_fld (pv 0) rfl) (pe_hasP PB C.cl hr2 (pv 2))) pa_nil)) pk_nil)))), ?_⟩
    refine ⟨_, rfl, rfl, rfl, .inl ⟨y, j, rfl, ry, fun H1 s1 => ?_⟩⟩
    obtain ⟨dy, ey⟩ := ry.same s1
    have ex1 := s1 _ _ ex
    refine ⟨_, rfl, x, R, dx, _, _, rfl, ex1, C.cl, C.nT, rfl_t, _, rfl, y, dy, _, rfl, ey, y, dy, _, _, rfl, ey, rfl_b, _, _, rfl, rfl, .inr ⟨by decide, by decide⟩, ?_⟩
    refine ⟨_, rfl, y, dy, _, rfl, ey, y, dy, _, _, rfl, ey, rfl_t, _, rfl, x, R, dx, _, _, rfl, ex1, C.cl, C.nB, rfl_b, _, _, rfl, rfl, .inr ⟨by decide, by decide⟩, _, _, rfl, rfl, ?_⟩
    refine ⟨_, rfl, x, R, dx, _, _, rfl, ex1, C.cl, C.nB, rfl_b, _, rfl, y, dy, _, rfl, ey, y, dy, _, _, rfl, ey, rfl_b, _, _, rfl, rfl, .inr ⟨by decide, by decide⟩, rfl, rfl, ?_⟩
    have e1 : i * 1 + j * 1 = i + j := by omega
    have e2 : (1 : Int) * 1 = 1 := rfl
    dsimp only
    rw [e1, e2]
    exact q_rat fun z H' n rt s' => q z H' (s1.free n) rt (s1.trans s')
theorem ok_rsub {f : Addr} {fd : FuncData} (F : Fun K "__sub__" "Ratio.__sub__" (rm 12) f fd) (T : Bi mg) (C : Rc K mg R) (RO : Has P w K mg base "ratio_of" 4 ["value"] (spRo R)) (PT : HasP P w K mg base R "top" "_top") (PB : HasP P w K mg base R "bottom" "_bottom")
    (MK2 : HasC P w K mg base R 2 ["self", "top", "bottom"] (spRi R) 2 [] (fun vs _ => vs)) :
    FnG P w K mg base CX0 5 f fd ["self", "other"] (spRa R fun i j => i - j) := by
  refine okG F scSu (fun vs H Q E h => ?_) (fun cdv A out s H vs Q E g hr h => ?_)
  · obtain ⟨x, y, i, j, rfl, _⟩ := h
    rfl
  · obtain ⟨x, y, i, j, rfl, ⟨dx, ex⟩, ry, q⟩ := h
    have hr4 : Room 4 _ := hr
    have hr3 : Room 3 _ := hr.mono (by decide)
    have hr2 : Room 2 _ := hr.mono (by decide)
    refine ⟨_, (pss_cons (ps_set (i := 2) scSu.nd rfl (.inl rfl) (pe_has RO g hr4 (by rfl) (pa_cons (pv 1) pa_nil)))
      (pss_one (ps_ret (pe_hasC MK2 g hr3 (by rfl) C.gR (pa_cons (pe_op op_sub (pe_op op_mul (pe_fld (pv 0) rfl) (pe_hasP PB C.cl hr2 (pv 2))) (pe_op op_mul (pe_hasP PT C.cl hr2 (pv 2)) (pe_fld (pv 0) rfl))) (pa_cons (pe_op op_mul (pe_fld (pv 0) rfl) (pe_hasP PB C.cl hr2 (pv 2))) pa_nil)) pk_nil)))), ?_⟩
    refine ⟨_, rfl, rfl, rfl, .inl ⟨y, j, rfl, ry, fun H1 s1 => ?_⟩⟩
    obtain ⟨dy, ey⟩ := ry.same s1
    have ex1 := s1 _ _ ex
    refine ⟨_, rfl, x, R, dx, _, _, rfl, ex1, C.cl, C.nT, rfl_t, _, rfl, y, dy, _, rfl, ey, y, dy, _, _, rfl, ey, rfl_b, _, _, rfl, rfl, .inr ⟨by decide, by decide⟩, ?_⟩
    refine ⟨_, rfl, y, dy, _, rfl, ey, y, dy, _, _, rfl, ey, rfl_t, _, rfl, x, R, dx, _, _, rfl, ex1, C.cl, C.nB, rfl_b, _, _, rfl, rfl, .inr ⟨by decide, by decide⟩, _, _, rfl, rfl, ?_⟩
    refine ⟨_, rfl, x, R, dx, _, _, rfl, ex1, C.cl, C.nB, rfl_b, _, rfl, y, dy, _, rfl, ey, y, dy, _, _, rfl, ey, rfl_b, _, _, rfl, rfl, .inr ⟨by decide, by decide⟩, rfl, rfl, ?_⟩
    have e1 : i * 1 - j * 1 = i - j := by omega
    have e2 : (1 : Int) * 1 = 1 := rfl
    dsimp only
    rw [e1, e2]
    exact q_rat fun z H' n rt s' => q z H' (s1.free n) rt (s1.trans s')
theorem int_small {i : Int} (h : i.natAbs ≤ 100000) : i.natAbs.log2 < 1920 ∧ (toString i : Str).length ≤ 7 := by
  constructor
  · by_cases z : i.natAbs = 0
    · rw [z]; decide
    · exact Nat.lt_of_lt_of_le ((Nat.log2_lt z).mpr (by omega : i.natAbs < 2 ^ 17)) (by decide)
  · have q : (toString i).length ≤ 6 + 1 := int_text_length_le10 (k := 6) (by decide) (by omega)
    have e := PySem.ofString_length (toString i)
    show (Str.ofString (toString i)).length ≤ 7
    omega
theorem ok_rrepr {f : Addr} {fd : FuncData} (F : Fun K "__repr__" "Ratio.__repr__" (rm 19) f fd) (T : Bi mg) (C : Rc K mg R) : FnOk P w K mg base CX0 1 f fd ["self"] (spRr R) := by
  refine F.ok scRr (fun vs H Q E h => ?_) (fun cdv A out s H vs Q E hr h => ?_)
  · obtain ⟨x, i, rfl, _⟩ := h
    rfl
  · obtain ⟨x, i, rfl, ⟨dx, ex⟩, hi, q⟩ := h
    obtain ⟨a1, a2⟩ := int_small hi
    have sz := sizeLine_eq
    have l1 : ("Ratio(" : Str).length = 6 := rfl
    have l2 : (", " : Str).length = 2 := rfl
    have l3 : (")" : Str).length = 1 := rfl
    have l0 : (Str.empty).length = 0 := rfl
    have l5 : (toString (1 : Int) : Str).length = 1 := by decide +kernel
    have k0 : Str.empty ++ ("Ratio(" : Str) = ("Ratio(" : Str) := rfl
    refine ⟨_, (pss_one (ps_ret (pe_joined (.cons pe_str (.cons (pe_fmt (pe_fld (pv 0) rfl)) (.cons pe_str (.cons (pe_fmt (pe_fld (pv 0) rfl)) (.cons pe_str .nil)))))))), ?_⟩
    refine ⟨_, rfl, by rw [k0]; omega, ?_⟩
    rw [k0]
    refine ⟨_, rfl, x, R, dx, _, _, rfl, ex, C.cl, C.nT, rfl_t, .inr ⟨i, rfl, a1, _, rfl, by rw [Str.length_append]; omega, ?_⟩⟩
    refine ⟨_, rfl, by rw [Str.length_append, Str.length_append]; omega, ?_⟩
    refine ⟨_, rfl, x, R, dx, _, _, rfl, ex, C.cl, C.nB, rfl_b, .inr ⟨1, rfl, by decide, _, rfl, by simp only [Str.length_append]; omega, ?_⟩⟩
    refine ⟨_, rfl, by simp only [Str.length_append]; omega, ?_⟩
    exact q H (Same.refl' _)
end
end KM

set_option Elab.async false
set_option linter.all false
set_option maxRecDepth 100000
set_option maxHeartbeats 4000000
set_option exponentiation.threshold 100
namespace KM
open PySem PySem.Spec PyProof.Rows L2 GL
/-! Ratios of any worth -/
def fq (q : Rat) : List (Str × V) := putF "_bottom" (.int (q.den : Int)) (putF "_top" (.int q.num) [])
theorem fq_t {q : Rat} : (fq q).lookup ("_top" : Str) = some (V.int q.num) := by
  unfold fq
  rw [lookup_putF, if_neg (by decide), lookup_putF, if_pos rfl]
theorem fq_b {q : Rat} : (fq q).lookup ("_bottom" : Str) = some (V.int (q.den : Int)) := by
  unfold fq
  rw [lookup_putF, if_pos rfl]
theorem fq_o {q : Rat} {m : Str} (h1 : ¬ m = "_bottom") (h2 : ¬ m = "_top") : (fq q).lookup m = none := by
  unfold fq
  rw [lookup_putF, if_neg h1, lookup_putF, if_neg h2]
  rfl
/-- the Ratio q stands at x -/
def RatQ (R : Addr) (H : Hp) (x : Addr) (q : Rat) : Prop := ∃ dx, H x = some (.ins R dx (fq q))
theorem RatQ.same {R : Addr} {H H' : Hp} {x : Addr} {q : Rat} (h : RatQ R H x q) (s : Same H H') : RatQ R H' x q := by
  obtain ⟨dx, e⟩ := h
  exact ⟨dx, s _ _ e⟩
/-- numbers of so many bits -/
structure Bd (k : Nat) (q : Rat) : Prop where
  t : q.num.natAbs < 2 ^ k
  b : q.den < 2 ^ k
theorem Bd.up {j k : Nat} {q : Rat} (h : Bd j q) (l : j ≤ k) : Bd k q := ⟨Nat.lt_of_lt_of_le h.t (Nat.pow_le_pow_right (by decide) l), Nat.lt_of_lt_of_le h.b (Nat.pow_le_pow_right (by decide) l)⟩
theorem mk_parts {t : Int} {n : Nat} (h : 0 < n) : (mkRat t n).num = t / ((t.natAbs.gcd n : Nat) : Int) ∧ (mkRat t n).den = n / t.natAbs.gcd n := by
  rw [← Rat.normalize_eq_mkRat (by omega : n ≠ 0), Rat.normalize_eq]
  exact ⟨rfl, rfl⟩
theorem mk_bd {t : Int} {n k : Nat} (h : 0 < n) (h1 : t.natAbs < 2 ^ k) (h2 : n < 2 ^ k) : Bd k (mkRat t n) := by
  obtain ⟨e1, e2⟩ := mk_parts (t := t) h
  exact ⟨by rw [e1]; exact Nat.lt_of_le_of_lt (Int.natAbs_ediv_le_natAbs _ _) h1, by rw [e2]; exact Nat.lt_of_le_of_lt (Nat.div_le_self _ _) h2⟩
theorem sub_bits {i j : Int} {k : Nat} (h1 : i.natAbs < 2 ^ k) (h2 : j.natAbs < 2 ^ k) : (i - j).natAbs < 2 ^ (k + 1) := by
  rw [Nat.pow_succ]
  omega
theorem add_bits {i j : Int} {k : Nat} (h1 : i.natAbs < 2 ^ k) (h2 : j.natAbs < 2 ^ k) : (i + j).natAbs < 2 ^ (k + 1) := by
  rw [Nat.pow_succ]
  omega
def spQi (R : Addr) : Sp := fun vs H Q _ => ∃ (x dx : Addr) (t : Int) (n : Nat), vs = [.ref x, .int t, .int (n : Int)] ∧ 0 < n ∧ t.natAbs < 2 ^ 3000 ∧ n < 2 ^ 3000 ∧ H x = some (.ins R dx []) ∧ ∀ H', RatQ R H' x (mkRat t n) → But x H H' → Q .non H'
def spQo (R : Addr) : Sp := fun vs H Q _ => (∃ (x : Addr) (q : Rat), vs = [.ref x] ∧ RatQ R H x q ∧ ∀ H', Same H H' → Q (.ref x) H') ∨ (∃ i : Int, vs = [.int i] ∧ i.natAbs < 2 ^ 3000 ∧ ∀ x H', H x = none → RatQ R H' x (i : Rat) → Same H H' → Q (.ref x) H')
def spQm (R : Addr) : Sp := fun vs H Q _ => ∃ (x : Addr) (q : Rat) (m : Int), vs = [.ref x, .int m] ∧ RatQ R H x q ∧ Bd 1000 q ∧ m.natAbs < 2 ^ 1000 ∧ ∀ H', Same H H' → Q (.bl (decide (q ≤ (m : Rat)))) H'
/-- x + y, x - y, the other a Ratio or an integer -/
def spQa (R : Addr) (op : Rat → Rat → Rat) : Sp := fun vs H Q _ => ∃ (x : Addr) (y : V) (p q : Rat), vs = [.ref x, y] ∧ RatQ R H x p ∧ Bd 1000 p ∧ Bd 1000 q ∧ ((∃ a, y = .ref a ∧ RatQ R H a q) ∨ ∃ i : Int, y = .int i ∧ q = (i : Rat)) ∧ ∀ z H', H z = none → RatQ R H' z (op p q) → Same H H' → Q (.ref z) H'
def spNuQ (R : Addr) : Sp := fun vs H Q _ => (∃ (x : Addr) (q : Rat), vs = [.ref x] ∧ RatQ R H x q ∧ ∀ H', Same H H' → Q (.bl true) H') ∨ ∃ i : Int, vs = [.int i] ∧ ∀ H', Same H H' → Q (.bl true) H'
def spIntQ (R : Addr) : Sp := fun vs H Q _ => (∃ (x : Addr) (q : Rat), vs = [.ref x] ∧ RatQ R H x q ∧ ∀ H', Same H H' → Q (.bl false) H') ∨ ∃ i : Int, vs = [.int i] ∧ ∀ H', Same H H' → Q (.bl true) H'
theorem q_mk {R : Addr} {Hc : Hp} {W : Addr → Hp → Prop} {t : Int} {n : Nat} (h0 : 0 < n) (h1 : t.natAbs < 2 ^ 3000) (h2 : n < 2 ^ 3000) (h : ∀ x H', Hc x = none → RatQ R H' x (mkRat t n) → Same Hc H' → W x H') :
    ∀ x dx, Hc x = none → Hc dx = none → dx ≠ x → spQi R [.ref x, .int t, .int (n : Int)] (upd (upd Hc dx (.own x)) x (.ins R dx [])) (fun v H3 => v = .non ∧ W x H3) E0 := by
  intro x dx nx ndx nex
  refine ⟨x, dx, t, n, rfl, h0, h1, h2, upd_same, fun H' rt b => ⟨rfl, h x H' nx rt fun a o e => b _ _ (ne_of_none e nx) ?_⟩⟩
  rw [upd_ne (ne_of_none e nx), upd_ne (ne_of_none e ndx)]
  exact e
section
variable {P : Program} {w : World} {K : PySem.W.Frag} {mg : Str → Option Value} {base : Heap} {R : Addr}
theorem ok_qinit {f : Addr} {fd : FuncData} (F : FunD K "__init__" "Ratio.__init__" (defArgs (rm 0)) (defBody (rm 0)) (defScope (rm 0)) [.int 1] [] f fd) (T : Bi mg) (C : Rc K mg R) (I : Has P w K mg base "is_integer" 1 ["value"] spInt) :
    FnG P w K mg base CX0 2 f fd ["self", "top", "bottom"] (spQi R) := by
  refine okGD F scRi (fun vs H Q E h => ?_) (fun cdv A out s H vs Q E g hr h => ?_)
  · obtain ⟨x, dx, t, n, rfl, _⟩ := h
    rfl
  · obtain ⟨x, dx, t, n, rfl, h0, ht, hn, hx, q⟩ := h
    have hr1 : Room 1 _ := hr
    refine ⟨_, (pss_cons (ps_if (pt_not (pt_val (pe_has I g hr1 (by rfl) (pa_cons (pv 1) pa_nil)))) (pss_one L2.ps_never) pss_nil)
      (pss_cons (ps_if (PW.pt (pw_or (pt_not (pt_val (pe_has I g hr1 (by rfl) (pa_cons (pv 2) pa_nil)))) (pw_or1 (pt_cmpR op_eq (pv 2) pe_int (nomark _))))) (pss_one L2.ps_never) pss_nil)
      (pss_cons (ps_set (i := 3) scRi.nd rfl (.inl rfl) (pe_callBfun cr_gcd (by rfl) C.gcd (pa_cons (pv 1) (pa_cons (pv 2) pa_nil))))
      (pss_cons (ps_if (pt_cmpR op_lt (pv 2) pe_int (nomark _)) (pss_one (ps_set (i := 3) scRi.nd rfl (.inl rfl) (pe_un un_neg (pv 3)))) pss_nil)
      (pss_cons (ps_fld (pv 0) (pe_op op_fdivW (pv 1) (pv 3)) rfl)
      (pss_one (ps_fld (pv 0) (pe_op op_fdivW (pv 2) (pv 3)) rfl))))))), ?_⟩
    refine ⟨_, rfl, rfl, rfl, t, rfl, fun H1 s1 => ⟨_, rfl, iteF ?_⟩⟩
    refine ⟨_, rfl, rfl, rfl, n, rfl, fun H2 s2 => ⟨_, rfl, iteF ?_⟩⟩
    refine ⟨_, rfl, rfl, _, rfl, ?_⟩
    rw [decide_eq_false (by intro z; injection z with z; omega)]
    refine iteF ?_
    refine ⟨_, rfl, _, rfl, t, n, rfl, ?_⟩
    have gp : 0 < t.natAbs.gcd n := Nat.gcd_pos_of_pos_right _ h0
    have gb : t.natAbs.gcd n < 2 ^ 3000 := Nat.lt_of_le_of_lt (Nat.gcd_le_right _ h0) hn
    have en : (n : Int).natAbs = n := rfl
    rw [en]
    refine ⟨_, rfl, _, _, rfl, rfl, _, rfl, ?_⟩
    rw [decide_eq_false (by omega)]
    refine iteF ?_
    have hx2 := s2 _ _ (s1 _ _ hx)
    have wd : ∀ i : Int, CDivW i ((t.natAbs.gcd n : Nat) : Int) := fun i => wide_div (b := 3000) (by omega) (by rw [Int.natAbs_natCast]; exact gb) (by decide) (by decide)
    refine ⟨_, rfl, _, rfl, _, _, rfl, rfl, wd _, ?_⟩
    refine ⟨_, rfl, x, R, dx, _, rfl, hx2, C.cl, C.nT, by show 0 < 1000; decide, ?_⟩
    refine mk_upd fun H3 x3 b3 => ?_
    refine ⟨_, rfl, _, rfl, _, _, rfl, rfl, wd _, ?_⟩
    refine ⟨_, rfl, x, R, dx, _, rfl, x3, C.cl, C.nB, by show 1 < 1000; decide, ?_⟩
    refine mk_upd fun H4 x4 b4 => ?_
    refine q H4 ⟨dx, ?_⟩ (((But.of (s1.trans s2)).trans b3).trans b4)
    rw [x4]
    obtain ⟨e1, e2⟩ := mk_parts (t := t) h0
    unfold fq
    rw [e1, e2]
    rw [Int.natCast_ediv]
theorem ok_intQ {f : Addr} {fd : FuncData} (F : Fun K "is_integer" "is_integer" sInt f fd) (T : Bi mg) (C : Rc K mg R) : FnG P w K mg base CX0 1 f fd ["value"] (spIntQ R) := by
  refine okG F scInt (fun vs H Q E h => ?_) (fun cdv A out s H vs Q E g hr h => ?_)
  · rcases h with ⟨x, i, rfl, _⟩ | ⟨i, rfl, _⟩ <;> rfl
  · rcases h with ⟨x, i, rfl, ⟨dx, ex⟩, q⟩ | ⟨i, rfl, q⟩
    · refine ⟨_, (pss_one (ps_ret (pe_and (pe_callB call_isi (by rfl) T.isinstance (by decide +kernel) (pa_cons (pv 0) (pa_cons (pe_bltn (v := .ty "int") (u := .type "int") (by rfl) T.int (by decide +kernel) rfl) pa_nil))) (pe_one (pe_not (pe_callB call_isi (by rfl) T.isinstance (by decide +kernel) (pa_cons (pv 0) (pa_cons (pe_bltn (v := .ty "bool") (u := .type "bool") (by rfl) T.bool (by decide +kernel) rfl) pa_nil)))))))), ?_⟩
      exact ⟨_, rfl, .ref x, .ty "int", .ref R, .type "int", false, rfl, .ty "int", .base (.ins ex C.cl C.hc C.hn C.ht C.hm), C.ik, false, rfl, q _ (Same.refl' _)⟩
    · refine ⟨_, (pss_one (ps_ret (pe_and (pe_callB call_isi (by rfl) T.isinstance (by decide +kernel) (pa_cons (pv 0) (pa_cons (pe_bltn (v := .ty "int") (u := .type "int") (by rfl) T.int (by decide +kernel) rfl) pa_nil))) (pe_one (pe_not (pe_callB call_isi (by rfl) T.isinstance (by decide +kernel) (pa_cons (pv 0) (pa_cons (pe_bltn (v := .ty "bool") (u := .type "bool") (by rfl) T.bool (by decide +kernel) rfl) pa_nil)))))))), ?_⟩
      refine ⟨_, rfl, .int i, .ty "int", .type "int", .type "int", true, rfl, .ty "int", .base (.int i), kit_ty (by decide +kernel), true, rfl, ?_⟩
      exact ⟨_, rfl, .int i, .ty "bool", .type "int", .type "bool", false, rfl, .ty "bool", .base (.int i), kit_ty (by decide +kernel), _, rfl, q _ (Same.refl' _)⟩
theorem ok_numQ {f : Addr} {fd : FuncData} (F : Fun K "is_number" "is_number" sNu f fd) (T : Bi mg) (C : Rc K mg R) (I : Has P w K mg base "is_integer" 1 ["value"] (spIntQ R)) : FnG P w K mg base CX0 2 f fd ["value"] (spNuQ R) := by
  refine okG F scNu (fun vs H Q E h => ?_) (fun cdv A out s H vs Q E g hr h => ?_)
  · rcases h with ⟨x, i, rfl, _⟩ | ⟨i, rfl, _⟩ <;> rfl
  · have hr1 : Room 1 _ := hr
    rcases h with ⟨x, i, rfl, rt, q⟩ | ⟨i, rfl, q⟩
    · refine ⟨_, (pss_one (ps_ret (pe_or (pe_has I g hr1 (by rfl) (pa_cons (pv 0) pa_nil)) (pe_one (pe_callB call_isi (by rfl) T.isinstance (by decide +kernel) (pa_cons (pv 0) (pa_cons (pe_glob (v := .ref R) (by rfl) C.gR rfl) pa_nil))))))), ?_⟩
      refine ⟨_, rfl, rfl, rfl, .inl ⟨x, i, rfl, rt, fun H1 s1 => ⟨false, rfl, ?_⟩⟩⟩
      obtain ⟨dx, ex⟩ := rt.same s1
      exact ⟨_, rfl, .ref x, .ref R, .ref R, .ref R, true, rfl, .own R, .base (.ins ex C.cl C.hc C.hn C.ht C.hm), kit_own, q _ s1⟩
    · refine ⟨_, (pss_one (ps_ret (pe_or (pe_has I g hr1 (by rfl) (pa_cons (pv 0) pa_nil)) (pe_one (pe_callB call_isi (by rfl) T.isinstance (by decide +kernel) (pa_cons (pv 0) (pa_cons (pe_glob (v := .ref R) (by rfl) C.gR rfl) pa_nil))))))), ?_⟩
      exact ⟨_, rfl, rfl, rfl, .inr ⟨i, rfl, fun H1 s1 => ⟨true, rfl, q _ s1⟩⟩⟩
theorem ok_ratio_ofQ {f : Addr} {fd : FuncData} (F : Fun K "ratio_of" "ratio_of" sRo f fd) (T : Bi mg) (C : Rc K mg R) (MK : HasC P w K mg base R 2 ["self", "top", "bottom"] (spQi R) 1 [] (fun vs _ => vs ++ [.int 1])) :
    FnG P w K mg base CX0 4 f fd ["value"] (spQo R) := by
  refine okG F scRo (fun vs H Q E h => ?_) (fun cdv A out s H vs Q E g hr h => ?_)
  · rcases h with ⟨x, i, rfl, _⟩ | ⟨i, rfl, _⟩ <;> rfl
  · have hr3 : Room 3 _ := hr
    rcases h with ⟨x, i, rfl, ⟨dx, ex⟩, q⟩ | ⟨i, rfl, hi, q⟩
    · refine ⟨_, (pss_cons (ps_if (pt_val (pe_callB call_isi (by rfl) T.isinstance (by decide +kernel) (pa_cons (pv 0) (pa_cons (pe_glob (v := .ref R) (by rfl) C.gR rfl) pa_nil)))) (pss_one (ps_ret (pv 0))) pss_nil)
      (pss_one (ps_ret (pe_hasC MK g hr3 (by rfl) C.gR (pa_cons (pv 0) pa_nil) pk_nil)))), ?_⟩
      exact ⟨_, rfl, .ref x, .ref R, .ref R, .ref R, true, rfl, .own R, .base (.ins ex C.cl C.hc C.hn C.ht C.hm), kit_own, _, rfl, iteT ⟨_, rfl, q _ (Same.refl' _)⟩⟩
    · refine ⟨_, (pss_cons (ps_if (pt_val (pe_callB call_isi (by rfl) T.isinstance (by decide +kernel) (pa_cons (pv 0) (pa_cons (pe_glob (v := .ref R) (by rfl) C.gR rfl) pa_nil)))) (pss_one (ps_ret (pv 0))) pss_nil)
      (pss_one (ps_ret (pe_hasC MK g hr3 (by rfl) C.gR (pa_cons (pv 0) pa_nil) pk_nil)))), ?_⟩
      refine ⟨_, rfl, .int i, .ref R, .type "int", .ref R, false, rfl, .own R, .base (.int i), C.ki, _, rfl, iteF ?_⟩
      refine ⟨_, rfl, rfl, rfl, ?_⟩
      exact q_mk (n := 1) (by decide) hi (Nat.one_lt_two_pow (by decide)) fun x H' n rt s' => q x H' n (by rw [Rat.mkRat_one] at rt; exact rt) s'
theorem bits_mul {i j : Int} {a b : Nat} (h1 : i.natAbs < 2 ^ a) (h2 : j.natAbs < 2 ^ b) : (i * j).natAbs < 2 ^ (a + b) := wide_lt h1 h2
theorem ok_atmostQ {f : Addr} {fd : FuncData} (F : Fun K "is_at_most" "Ratio.is_at_most" (rm 9) f fd) (T : Bi mg) (C : Rc K mg R) (RO : Has P w K mg base "ratio_of" 4 ["value"] (spQo R)) (PT : HasP P w K mg base R "top" "_top") (PB : HasP P w K mg base R "bottom" "_bottom") :
    FnG P w K mg base CX0 5 f fd ["self", "other"] (spQm R) := by
  refine okG F scAm (fun vs H Q E h => ?_) (fun cdv A out s H vs Q E g hr h => ?_)
  · obtain ⟨x, i, m, rfl, _⟩ := h
    rfl
  · obtain ⟨x, i, m, rfl, ⟨dx, ex⟩, bq, bm, q⟩ := h
    have hr4 : Room 4 _ := hr
    have hr2 : Room 2 _ := hr.mono (by decide)
    have b1 : ∀ {n : Nat}, n < 2 ^ 1000 → ((n : Nat) : Int).natAbs < 2 ^ 1000 := fun {n} h => h
    have m1 : ((m : Rat)).num = m := Rat.num_intCast m
    have m2 : ((m : Rat)).den = 1 := Rat.den_intCast m
    refine ⟨_, (pss_cons (ps_set (i := 2) scAm.nd rfl (.inl rfl) (pe_has RO g hr4 (by rfl) (pa_cons (pv 1) pa_nil)))
      (pss_one (ps_ret (pe_cmpR op_le (pe_op op_mulW (pe_fld (pv 0) rfl) (pe_hasP PB C.cl hr2 (pv 2))) (pe_op op_mulW (pe_hasP PT C.cl hr2 (pv 2)) (pe_fld (pv 0) rfl)) (nomark _))))), ?_⟩
    refine ⟨_, rfl, rfl, rfl, .inr ⟨m, rfl, Nat.lt_of_lt_of_le bm (Nat.pow_le_pow_right (by decide) (by decide)), fun y H1 n1 ⟨dy, ey⟩ s1 => ?_⟩⟩
    have ex1 := s1 _ _ ex
    refine ⟨_, rfl, x, R, dx, _, _, rfl, ex1, C.cl, C.nT, fq_t, _, rfl, y, dy, _, rfl, ey, y, dy, _, _, rfl, ey, fq_b, _, _, rfl, rfl, wide_mul bq.t (by rw [m2]; exact Nat.one_lt_two_pow (n := 1000) (by decide)) (by decide) (by decide) (by decide), ?_⟩
    refine ⟨_, rfl, y, dy, _, rfl, ey, y, dy, _, _, rfl, ey, fq_t, _, rfl, x, R, dx, _, _, rfl, ex1, C.cl, C.nB, fq_b, _, _, rfl, rfl, wide_mul (by rw [m1]; exact bm) (b1 bq.b) (by decide) (by decide) (by decide), _, _, rfl, rfl, ?_⟩
    have e : decide (i ≤ (m : Rat)) = decide (i.num * ((((m : Rat)).den : Nat) : Int) ≤ ((m : Rat)).num * ((i.den : Nat) : Int)) := decide_eq_decide.mpr (Rat.le_iff _ _)
    show Q (V.bl (decide (i.num * ((((m : Rat)).den : Nat) : Int) ≤ ((m : Rat)).num * ((i.den : Nat) : Int)))) H1
    rw [← e]
    exact q H1 s1
theorem ok_qsub {f : Addr} {fd : FuncData} (F : Fun K "__sub__" "Ratio.__sub__" (rm 12) f fd) (T : Bi mg) (C : Rc K mg R) (RO : Has P w K mg base "ratio_of" 4 ["value"] (spQo R)) (PT : HasP P w K mg base R "top" "_top") (PB : HasP P w K mg base R "bottom" "_bottom")
    (MK2 : HasC P w K mg base R 2 ["self", "top", "bottom"] (spQi R) 2 [] (fun vs _ => vs)) :
    FnG P w K mg base CX0 5 f fd ["self", "other"] (spQa R fun p q => p - q) := by
  refine okG F scSu (fun vs H Q E h => ?_) (fun cdv A out s H vs Q E g hr h => ?_)
  · obtain ⟨x, y, i, j, rfl, _⟩ := h
    rfl
  · obtain ⟨x, y, i, j, rfl, ⟨dx, ex⟩, bi, bj, hy, q⟩ := h
    have hr4 : Room 4 _ := hr
    have hr3 : Room 3 _ := hr.mono (by decide)
    have hr2 : Room 2 _ := hr.mono (by decide)
    have b1 : ∀ {n : Nat}, n < 2 ^ 1000 → ((n : Nat) : Int).natAbs < 2 ^ 1000 := fun {n} h => h
    have go : ∀ (H1 : Hp), Same H H1 → ∀ x2 dx2, H1 x2 = none → H1 dx2 = none → dx2 ≠ x2 → spQi R [.ref x2, .int (i.num * (j.den : Int) - j.num * (i.den : Int)), .int ((i.den : Int) * (j.den : Int))] (upd (upd H1 dx2 (.own x2)) x2 (.ins R dx2 [])) (fun v H3 => v = .non ∧ Q (.ref x2) H3) E0 := fun H1 s1 => by
      have e : (i.den : Int) * (j.den : Int) = ((i.den * j.den : Nat) : Int) := by rw [Int.natCast_mul]
      rw [e]
      refine q_mk (Nat.mul_pos i.den_pos j.den_pos) ?_ ?_ fun z H' n rt s' => q z H' (s1.free n) (by rw [← Rat.sub_def'] at rt; exact rt) (s1.trans s')
      · exact Nat.lt_of_lt_of_le (sub_bits (bits_mul bi.t (b1 bj.b)) (bits_mul bj.t (b1 bi.b))) (Nat.pow_le_pow_right (by decide) (by decide))
      · exact Nat.lt_of_lt_of_le (show i.den * j.den < 2 ^ (1000 + 1000) by rw [Nat.pow_add]; exact Nat.mul_lt_mul'' bi.b bj.b) (Nat.pow_le_pow_right (by decide) (by decide))
    refine ⟨_, (pss_cons (ps_set (i := 2) scSu.nd rfl (.inl rfl) (pe_has RO g hr4 (by rfl) (pa_cons (pv 1) pa_nil)))
      (pss_one (ps_ret (pe_hasC MK2 g hr3 (by rfl) C.gR (pa_cons (pe_op op_sub (pe_op op_mulW (pe_fld (pv 0) rfl) (pe_hasP PB C.cl hr2 (pv 2))) (pe_op op_mulW (pe_hasP PT C.cl hr2 (pv 2)) (pe_fld (pv 0) rfl))) (pa_cons (pe_op op_mulW (pe_fld (pv 0) rfl) (pe_hasP PB C.cl hr2 (pv 2))) pa_nil)) pk_nil)))), ?_⟩
    rcases hy with ⟨a, rfl, ra⟩ | ⟨m, rfl, rfl⟩
    · refine ⟨_, rfl, rfl, rfl, .inl ⟨a, j, rfl, ra, fun H1 s1 => ?_⟩⟩
      obtain ⟨dy, ey⟩ := ra.same s1
      have ex1 := s1 _ _ ex
      refine ⟨_, rfl, x, R, dx, _, _, rfl, ex1, C.cl, C.nT, fq_t, _, rfl, a, dy, _, rfl, ey, a, dy, _, _, rfl, ey, fq_b, _, _, rfl, rfl, wide_mul bi.t (b1 bj.b) (by decide) (by decide) (by decide), ?_⟩
      refine ⟨_, rfl, a, dy, _, rfl, ey, a, dy, _, _, rfl, ey, fq_t, _, rfl, x, R, dx, _, _, rfl, ex1, C.cl, C.nB, fq_b, _, _, rfl, rfl, wide_mul bj.t (b1 bi.b) (by decide) (by decide) (by decide), _, _, rfl, rfl, ?_⟩
      refine ⟨_, rfl, x, R, dx, _, _, rfl, ex1, C.cl, C.nB, fq_b, _, rfl, a, dy, _, rfl, ey, a, dy, _, _, rfl, ey, fq_b, _, _, rfl, rfl, wide_mul (b1 bi.b) (b1 bj.b) (by decide) (by decide) (by decide), rfl, rfl, ?_⟩
      exact go H1 s1
    · refine ⟨_, rfl, rfl, rfl, .inr ⟨m, rfl, Nat.lt_of_lt_of_le (by have z := bj.t; rw [Rat.num_intCast] at z; exact z) (Nat.pow_le_pow_right (by decide) (by decide : 1000 ≤ 3000)), fun a H1 n1 rj s1 => ?_⟩⟩
      obtain ⟨dy, ey⟩ := rj
      have ex1 := s1 _ _ ex
      refine ⟨_, rfl, x, R, dx, _, _, rfl, ex1, C.cl, C.nT, fq_t, _, rfl, a, dy, _, rfl, ey, a, dy, _, _, rfl, ey, fq_b, _, _, rfl, rfl, wide_mul bi.t (b1 bj.b) (by decide) (by decide) (by decide), ?_⟩
      refine ⟨_, rfl, a, dy, _, rfl, ey, a, dy, _, _, rfl, ey, fq_t, _, rfl, x, R, dx, _, _, rfl, ex1, C.cl, C.nB, fq_b, _, _, rfl, rfl, wide_mul bj.t (b1 bi.b) (by decide) (by decide) (by decide), _, _, rfl, rfl, ?_⟩
      refine ⟨_, rfl, x, R, dx, _, _, rfl, ex1, C.cl, C.nB, fq_b, _, rfl, a, dy, _, rfl, ey, a, dy, _, _, rfl, ey, fq_b, _, _, rfl, rfl, wide_mul (b1 bi.b) (b1 bj.b) (by decide) (by decide) (by decide), rfl, rfl, ?_⟩
      exact go H1 s1
theorem ok_qadd {f : Addr} {fd : FuncData} (F : Fun K "__add__" "Ratio.__add__" (rm 10) f fd) (T : Bi mg) (C : Rc K mg R) (RO : Has P w K mg base "ratio_of" 4 ["value"] (spQo R)) (PT : HasP P w K mg base R "top" "_top") (PB : HasP P w K mg base R "bottom" "_bottom")
    (MK2 : HasC P w K mg base R 2 ["self", "top", "bottom"] (spQi R) 2 [] (fun vs _ => vs)) :
    FnG P w K mg base CX0 5 f fd ["self", "other"] (spQa R fun p q => p + q) := by
  refine okG F scAd (fun vs H Q E h => ?_) (fun cdv A out s H vs Q E g hr h => ?_)
  · obtain ⟨x, y, i, j, rfl, _⟩ := h
    rfl
  · obtain ⟨x, y, i, j, rfl, ⟨dx, ex⟩, bi, bj, hy, q⟩ := h
    have hr4 : Room 4 _ := hr
    have hr3 : Room 3 _ := hr.mono (by decide)
    have hr2 : Room 2 _ := hr.mono (by decide)
    have b1 : ∀ {n : Nat}, n < 2 ^ 1000 → ((n : Nat) : Int).natAbs < 2 ^ 1000 := fun {n} h => h
    have go : ∀ (H1 : Hp), Same H H1 → ∀ x2 dx2, H1 x2 = none → H1 dx2 = none → dx2 ≠ x2 → spQi R [.ref x2, .int (i.num * (j.den : Int) + j.num * (i.den : Int)), .int ((i.den : Int) * (j.den : Int))] (upd (upd H1 dx2 (.own x2)) x2 (.ins R dx2 [])) (fun v H3 => v = .non ∧ Q (.ref x2) H3) E0 := fun H1 s1 => by
      have e : (i.den : Int) * (j.den : Int) = ((i.den * j.den : Nat) : Int) := by rw [Int.natCast_mul]
      rw [e]
      refine q_mk (Nat.mul_pos i.den_pos j.den_pos) ?_ ?_ fun z H' n rt s' => q z H' (s1.free n) (by rw [← Rat.add_def'] at rt; exact rt) (s1.trans s')
      · exact Nat.lt_of_lt_of_le (add_bits (bits_mul bi.t (b1 bj.b)) (bits_mul bj.t (b1 bi.b))) (Nat.pow_le_pow_right (by decide) (by decide))
      · exact Nat.lt_of_lt_of_le (show i.den * j.den < 2 ^ (1000 + 1000) by rw [Nat.pow_add]; exact Nat.mul_lt_mul'' bi.b bj.b) (Nat.pow_le_pow_right (by decide) (by decide))
    refine ⟨_, (pss_cons (ps_set (i := 2) scAd.nd rfl (.inl rfl) (pe_has RO g hr4 (by rfl) (pa_cons (pv 1) pa_nil)))
      (pss_one (ps_ret (pe_hasC MK2 g hr3 (by rfl) C.gR (pa_cons (pe_op op_add (pe_op op_mulW (pe_fld (pv 0) rfl) (pe_hasP PB C.cl hr2 (pv 2))) (pe_op op_mulW (pe_hasP PT C.cl hr2 (pv 2)) (pe_fld (pv 0) rfl))) (pa_cons (pe_op op_mulW (pe_fld (pv 0) rfl) (pe_hasP PB C.cl hr2 (pv 2))) pa_nil)) pk_nil)))), ?_⟩
    rcases hy with ⟨a, rfl, ra⟩ | ⟨m, rfl, rfl⟩
    · refine ⟨_, rfl, rfl, rfl, .inl ⟨a, j, rfl, ra, fun H1 s1 => ?_⟩⟩
      obtain ⟨dy, ey⟩ := ra.same s1
      have ex1 := s1 _ _ ex
      refine ⟨_, rfl, x, R, dx, _, _, rfl, ex1, C.cl, C.nT, fq_t, _, rfl, a, dy, _, rfl, ey, a, dy, _, _, rfl, ey, fq_b, _, _, rfl, rfl, wide_mul bi.t (b1 bj.b) (by decide) (by decide) (by decide), ?_⟩
      refine ⟨_, rfl, a, dy, _, rfl, ey, a, dy, _, _, rfl, ey, fq_t, _, rfl, x, R, dx, _, _, rfl, ex1, C.cl, C.nB, fq_b, _, _, rfl, rfl, wide_mul bj.t (b1 bi.b) (by decide) (by decide) (by decide), _, _, rfl, rfl, ?_⟩
      refine ⟨_, rfl, x, R, dx, _, _, rfl, ex1, C.cl, C.nB, fq_b, _, rfl, a, dy, _, rfl, ey, a, dy, _, _, rfl, ey, fq_b, _, _, rfl, rfl, wide_mul (b1 bi.b) (b1 bj.b) (by decide) (by decide) (by decide), rfl, rfl, ?_⟩
      exact go H1 s1
    · refine ⟨_, rfl, rfl, rfl, .inr ⟨m, rfl, Nat.lt_of_lt_of_le (by have z := bj.t; rw [Rat.num_intCast] at z; exact z) (Nat.pow_le_pow_right (by decide) (by decide : 1000 ≤ 3000)), fun a H1 n1 rj s1 => ?_⟩⟩
      obtain ⟨dy, ey⟩ := rj
      have ex1 := s1 _ _ ex
      refine ⟨_, rfl, x, R, dx, _, _, rfl, ex1, C.cl, C.nT, fq_t, _, rfl, a, dy, _, rfl, ey, a, dy, _, _, rfl, ey, fq_b, _, _, rfl, rfl, wide_mul bi.t (b1 bj.b) (by decide) (by decide) (by decide), ?_⟩
      refine ⟨_, rfl, a, dy, _, rfl, ey, a, dy, _, _, rfl, ey, fq_t, _, rfl, x, R, dx, _, _, rfl, ex1, C.cl, C.nB, fq_b, _, _, rfl, rfl, wide_mul bj.t (b1 bi.b) (by decide) (by decide) (by decide), _, _, rfl, rfl, ?_⟩
      refine ⟨_, rfl, x, R, dx, _, _, rfl, ex1, C.cl, C.nB, fq_b, _, rfl, a, dy, _, rfl, ey, a, dy, _, _, rfl, ey, fq_b, _, _, rfl, rfl, wide_mul (b1 bi.b) (b1 bj.b) (by decide) (by decide) (by decide), rfl, rfl, ?_⟩
      exact go H1 s1
end
end KM

set_option Elab.async false
set_option linter.all false
set_option maxRecDepth 100000
set_option maxHeartbeats 4000000
namespace KM
open PySem PySem.Spec PyProof.Rows L2 GL
/-! moves, rings, chains of Moves -/
abbrev sCof : Stmt := top 46
abbrev sSmv : Stmt := top 51
abbrev sRng : Stmt := top 52
abbrev sCfr : Stmt := top 53
abbrev sTgt : Stmt := top 54
abbrev sChn : Stmt := top 55
/-- the class Chains, for the other texts -/
structure Hv2 (P : Program) (w : World) (K : PySem.W.Frag) (mg : Str → Option Value) (base : Heap) (D : Addr) : Prop where
  gC : mg "Chains" = some (.ref D)
  cl : Cls K D
  made : HasC P w K mg base D 2 ["self", "goods", "conditions"] (spCi P w D) 2 [] (fun vs _ => vs)
  has : HasM P w K mg base D "has_ring" 3 ["self"] (spHr P w D)
  ring : HasM P w K mg base D "ring" 2 ["self"] (spRg2 P w D)
  ti : HasM P w K mg base D "tightest" 1 ["self", "first", "second"] (spTi P w D)
  cn : HasM P w K mg base D "chain" 2 ["self", "first", "second"] (spCn P w D)
  mv : HasM P w K mg base D "move" 1 ["self"] (spMv P w D)
theorem q_chains {P : Program} {w : World} {D : Addr} {Hc : Hp} {W : Addr → Hp → Prop} {G R : Addr} {gs : List Str} {rs : List Row} {as : List Addr} (e1 : Hc G = some (.lst (gs.map V.str))) (e2 : Hc R = some (.lst (as.map V.ref))) (rows : RowsIn Hc as rs) (fit : CFit gs rs)
    (h : ∀ x H', Hc x = none → ChAt P w D H' x gs rs → Same Hc H' → W x H') :
    ∀ x dx, Hc x = none → Hc dx = none → dx ≠ x → spCi P w D [.ref x, .ref G, .ref R] (upd (upd Hc dx (.own x)) x (.ins D dx [])) (fun v H3 => v = .non ∧ W x H3) E0 := by
  intro x dx nx ndx nex
  have k : Same Hc (upd (upd Hc dx (.own x)) x (.ins D dx [])) := fun a o e => by rw [upd_ne (ne_of_none e nx), upd_ne (ne_of_none e ndx)]; exact e
  refine ⟨x, dx, G, R, gs, rs, as, rfl, upd_same, k _ _ e1, k _ _ e2, rows_same rows k, fit.g, fit.r, fit.n, fun H' ch b => ⟨rfl, ?_⟩⟩
  exact h x H' nx ch fun a o e => b _ _ (ne_of_none e nx) (k _ _ e)
theorem ChAt.ins {P : Program} {w : World} {D : Addr} {H : Hp} {c : Addr} {gs : List Str} {rs : List Row} (h : ChAt P w D H c gs rs) : ∃ dx fs, H c = some (.ins D dx fs) ∧ ∀ m : Str, ¬ m = "_least_sums" → ¬ m = "_many" → ¬ m = "_conditions" → ¬ m = "_places" → fs.lookup m = none := by
  obtain ⟨pl, cs, ls, ts, ho, _⟩ := h
  obtain ⟨dx, eo⟩ := ho.ob
  exact ⟨dx, _, eo, fun m => cfl_o⟩
theorem cfit {gs : List Str} {rs : List Row} (h : Fit gs rs) : CFit gs rs := ⟨h.g, h.r, Nat.le_trans h.n (by decide)⟩
def spCof (P : Program) (w : World) (C D : Addr) : Sp := fun vs H Q _ => ∃ (m : Addr) (gs : List Str) (rs : List Row), vs = [.ref m] ∧ MovesAt C H m gs rs ∧ Fit gs rs ∧ ∀ c H', H c = none → ChAt P w D H' c gs rs → Same H H' → Q (.ref c) H'
def spSmv (C : Addr) : Sp := fun vs H Q _ => ∃ (m : Addr) (gs : List Str) (rs : List Row), vs = [.ref m] ∧ MovesAt C H m gs rs ∧ Fit gs rs ∧ (KN.Ring rs → ∀ H', Same H H' → Q .non H') ∧
  (¬ KN.Ring rs → ∀ d H', H d = none → H' d = some (.dK (chgD gs (mvG gs rs))) → mvG gs rs none = 0 → (∀ c ∈ rs, mvG gs rs c.1 - mvG gs rs c.2.1 ≤ c.2.2) → Same H H' → Q (.ref d) H')
def spRng (C : Addr) : Sp := fun vs H Q _ => ∃ (m : Addr) (gs : List Str) (rs : List Row), vs = [.ref m] ∧ MovesAt C H m gs rs ∧ Fit gs rs ∧
  (∀ L H' l, KN.RingL rs (some l) → l.length ≤ 5 → H L = none → H' L = some (.lst (l.map nI)) → Same H H' → Q (.ref L) H') ∧ (KN.RingL rs none → ∀ H', Same H H' → Q .non H')
def spCfr (P : Program) (w : World) (C D : Addr) : Sp := fun vs H Q _ => ∃ (m : Addr) (gs : List Str) (rs : List Row) (a b : Pt), vs = [.ref m, oV a, oV b] ∧ MovesAt C H m gs rs ∧ Fit gs rs ∧ a ∈ pts gs ∧ b ∈ pts gs ∧ a ≠ b ∧ ¬ KN.Ring rs ∧
  ∀ c H', H c = none → ChAt P w D H' c gs rs → Same H H' → Q (.ref c) H'
def spTgt (C : Addr) : Sp := fun vs H Q _ => ∃ (m : Addr) (gs : List Str) (rs : List Row) (a b : Pt), vs = [.ref m, oV a, oV b] ∧ MovesAt C H m gs rs ∧ Fit gs rs ∧ a ∈ pts gs ∧ b ∈ pts gs ∧ a ≠ b ∧ ¬ KN.Ring rs ∧
  ∀ x H', KN.Least rs a b x → Same H H' → Q (oI x) H'
def spChn (C : Addr) : Sp := fun vs H Q _ => ∃ (m : Addr) (gs : List Str) (rs : List Row) (a b : Pt), vs = [.ref m, oV a, oV b] ∧ MovesAt C H m gs rs ∧ Fit gs rs ∧ a ∈ pts gs ∧ b ∈ pts gs ∧ a ≠ b ∧ ¬ KN.Ring rs ∧
  (∀ H', KN.Least rs a b none → Same H H' → Q .non H') ∧ ∀ L H' l t, KN.Least rs a b (some t) → KN.ChainL rs a b (some t) (some l) → l.length ≤ 5 → H L = none → H' L = some (.lst (l.map nI)) → Same H H' → Q (.ref L) H'
theorem scCof : FnScope ["moves"] ["moves"] (defScope sCof) := ⟨rfl, rfl, rfl, by decide +kernel, rfl, by decide +kernel, by decide +kernel⟩
theorem scSmv : FnScope ["moves", "chains"] ["moves"] (defScope sSmv) := ⟨rfl, rfl, rfl, by decide +kernel, rfl, by decide +kernel, by decide +kernel⟩
theorem scRng : FnScope ["moves"] ["moves"] (defScope sRng) := ⟨rfl, rfl, rfl, by decide +kernel, rfl, by decide +kernel, by decide +kernel⟩
theorem scCfr : FnScope ["moves", "first", "second", "goods", "chains"] ["moves", "first", "second"] (defScope sCfr) := ⟨rfl, rfl, rfl, by decide +kernel, rfl, by decide +kernel, by decide +kernel⟩
theorem scTgt : FnScope ["moves", "first", "second"] ["moves", "first", "second"] (defScope sTgt) := ⟨rfl, rfl, rfl, by decide +kernel, rfl, by decide +kernel, by decide +kernel⟩
theorem scChn : FnScope ["moves", "first", "second"] ["moves", "first", "second"] (defScope sChn) := ⟨rfl, rfl, rfl, by decide +kernel, rfl, by decide +kernel, by decide +kernel⟩
section
variable {P : Program} {w : World} {K : PySem.W.Frag} {mg : Str → Option Value} {base : Heap} {C D : Addr}
theorem ok_cof {f : Addr} {fd : FuncData} (F : Fun K "chains_of" "chains_of" sCof f fd) (T : Bi mg) (M : Mv P w K mg base C) (V0 : Hv2 P w K mg base D) : FnG P w K mg base CX0 4 f fd ["moves"] (spCof P w C D) := by
  refine okG F scCof (fun vs H Q E h => ?_) (fun cdv A out s H vs Q E g hr h => ?_)
  · obtain ⟨m, gs, rs, rfl, _⟩ := h
    rfl
  · obtain ⟨m, gs, rs, rfl, hm, fit, q⟩ := h
    have hr1 : Room 1 _ := hr.mono (by decide)
    have hr3 : Room 3 _ := hr
    obtain ⟨dx, fs, em, lk⟩ := hm.ins
    refine ⟨_, (pss_one (ps_ret (pe_hasC V0.made g hr3 (by rfl) V0.gC (pa_cons (pe_hasM0 M.goods M.cl g hr1 rfl (pv 0)) (pa_cons (pe_hasM0 M.conds M.cl g hr1 rfl (pv 0)) pa_nil)) pk_nil))), ?_⟩
    refine ⟨_, rfl, m, dx, fs, rfl, em, lk _ (by decide +kernel) (by decide +kernel), rfl, rfl, m, gs, rs, rfl, hm, fun G H1 nG eG sG => ?_⟩
    refine ⟨_, rfl, m, dx, fs, rfl, sG _ _ em, lk _ (by decide +kernel) (by decide +kernel), rfl, rfl, m, gs, rs, rfl, hm.same sG, fun R as H2 nR eR rowsR sR => ?_⟩
    refine ⟨rfl, rfl, ?_⟩
    exact q_chains (sR _ _ eG) eR rowsR (cfit fit) fun c H3 n3 ch s3 => q c H3 ((sG.trans sR).free n3) ch ((sG.trans sR).trans s3)
theorem ok_smv {f : Addr} {fd : FuncData} (F : Fun K "some_move" "some_move" sSmv f fd) (T : Bi mg) (V0 : Hv2 P w K mg base D) (CO : Has P w K mg base "chains_of" 4 ["moves"] (spCof P w C D)) : FnG P w K mg base CX0 5 f fd ["moves"] (spSmv C) := by
  refine okG F scSmv (fun vs H Q E h => ?_) (fun cdv A out s H vs Q E g hr h => ?_)
  · obtain ⟨m, gs, rs, rfl, _⟩ := h
    rfl
  · obtain ⟨m, gs, rs, rfl, hm, fit, qy, qn⟩ := h
    have hr1 : Room 1 _ := hr.mono (by decide)
    have hr3 : Room 3 _ := hr.mono (by decide)
    have hr4 : Room 4 _ := hr
    refine ⟨_, (pss_cons (ps_set (i := 1) scSmv.nd rfl (.inl rfl) (pe_has CO g hr4 (by rfl) (pa_cons (pv 0) pa_nil)))
      (pss_one (ps_ret (pe_ifExp (pt_val (pe_hasM0 V0.has V0.cl g hr3 rfl (pv 1))) pe_non (pe_hasM0 V0.mv V0.cl g hr1 rfl (pv 1)))))), ?_⟩
    refine ⟨_, rfl, rfl, rfl, m, gs, rs, rfl, hm, fit, fun c H1 n1 ch s1 => ?_⟩
    obtain ⟨dz, fq, eo, lk⟩ := ch.ins
    refine ⟨_, rfl, c, dz, fq, rfl, eo, lk _ (by decide +kernel) (by decide +kernel) (by decide +kernel) (by decide +kernel), rfl, rfl, ?_⟩
    refine ⟨c, gs, rs, rfl, ch, cfit fit, fun hg H2 s2 => ⟨_, rfl, iteT (qy hg H2 (s1.trans s2))⟩, fun hg H2 s2 => ⟨_, rfl, iteF ?_⟩⟩
    refine ⟨_, rfl, c, dz, fq, rfl, s2 _ _ eo, lk _ (by decide +kernel) (by decide +kernel) (by decide +kernel) (by decide +kernel), rfl, rfl, ?_⟩
    exact ⟨c, gs, rs, rfl, ch.same s2, cfit fit, hg, fun d H3 nd ed z k s3 => qn hg d H3 ((s1.trans s2).free nd) ed z k ((s1.trans s2).trans s3)⟩
theorem ok_rng {f : Addr} {fd : FuncData} (F : Fun K "ring" "ring" sRng f fd) (T : Bi mg) (V0 : Hv2 P w K mg base D) (CO : Has P w K mg base "chains_of" 4 ["moves"] (spCof P w C D)) : FnG P w K mg base CX0 5 f fd ["moves"] (spRng C) := by
  refine okG F scRng (fun vs H Q E h => ?_) (fun cdv A out s H vs Q E g hr h => ?_)
  · obtain ⟨m, gs, rs, rfl, _⟩ := h
    rfl
  · obtain ⟨m, gs, rs, rfl, hm, fit, qy, qn⟩ := h
    have hr2 : Room 2 _ := hr.mono (by decide)
    have hr4 : Room 4 _ := hr
    refine ⟨_, (pss_one (ps_ret (pe_hasM0 V0.ring V0.cl g hr2 rfl (pe_has CO g hr4 (by rfl) (pa_cons (pv 0) pa_nil))))), ?_⟩
    refine ⟨_, rfl, rfl, rfl, m, gs, rs, rfl, hm, fit, fun c H1 n1 ch s1 => ?_⟩
    obtain ⟨dz, fq, eo, lk⟩ := ch.ins
    refine ⟨c, dz, fq, rfl, eo, lk _ (by decide +kernel) (by decide +kernel) (by decide +kernel) (by decide +kernel), rfl, rfl, ?_⟩
    exact ⟨c, gs, rs, rfl, ch, cfit fit, fun L H2 l hl h5 nL eL s2 => qy L H2 l hl h5 (s1.free nL) eL (s1.trans s2), fun hn H2 s2 => qn hn H2 (s1.trans s2)⟩
theorem ok_cfr {f : Addr} {fd : FuncData} (F : Fun K "_chains_for" "_chains_for" sCfr f fd) (T : Bi mg) (M : Mv P w K mg base C) (V0 : Hv2 P w K mg base D) (CO : Has P w K mg base "chains_of" 4 ["moves"] (spCof P w C D)) (EN : Has P w K mg base "_is_one_of" 2 ["goods", "value"] (spEn K)) :
    FnG P w K mg base CX0 5 f fd ["moves", "first", "second"] (spCfr P w C D) := by
  refine okG F scCfr (fun vs H Q E h => ?_) (fun cdv A out s H vs Q E g hr h => ?_)
  · obtain ⟨m, gs, rs, a, b, rfl, _⟩ := h
    rfl
  · obtain ⟨m, gs, rs, a, b, rfl, hm, fit, ha, hb, ne, nn, q⟩ := h
    have hr1 : Room 1 _ := hr.mono (by decide)
    have hr2 : Room 2 _ := hr.mono (by decide)
    have hr3 : Room 3 _ := hr.mono (by decide)
    have hr4 : Room 4 _ := hr
    have hu := hr.units
    obtain ⟨dx, fs, em, lk⟩ := hm.ins
    refine ⟨_, (pss_cons (ps_set (i := 3) scCfr.nd rfl (.inl rfl) (pe_hasM0 M.goods M.cl g hr1 rfl (pv 0)))
      (pss_cons (ps_if (PW.pt (pw_or (pt_not (pt_val (pe_has EN g hr2 (by rfl) (pa_cons (pv 3) (pa_cons (pv 1) pa_nil))))) (pw_or (pt_not (pt_val (pe_has EN g hr2 (by rfl) (pa_cons (pv 3) (pa_cons (pv 2) pa_nil))))) (pw_or1 (pt_cmpR (op_eqD hu) (pv 1) (pv 2) (nomark _)))))) (pss_one L2.ps_never) pss_nil)
      (pss_cons (ps_set (i := 4) scCfr.nd rfl (.inl rfl) (pe_has CO g hr4 (by rfl) (pa_cons (pv 0) pa_nil)))
      (pss_cons (ps_if (pt_val (pe_hasM0 V0.has V0.cl g hr3 rfl (pv 4))) (pss_one L2.ps_never) pss_nil)
      (pss_one (ps_ret (pv 4))))))), ?_⟩
    refine ⟨_, rfl, m, dx, fs, rfl, em, lk _ (by decide +kernel) (by decide +kernel), rfl, rfl, m, gs, rs, rfl, hm, fun G H1 nG eG sG => ?_⟩
    refine ⟨_, rfl, _, rfl, rfl, rfl, a, G, gs, rfl, .inl (SqL.of eG), pts_ok ha, fun H2 s2 => ⟨_, rfl, iteF ?_⟩⟩
    refine ⟨_, rfl, _, rfl, rfl, rfl, b, G, gs, rfl, .inl (SqL.of (s2 _ _ eG)), pts_ok hb, fun H3 s3 => ⟨_, rfl, iteF ?_⟩⟩
    refine ⟨_, rfl, _, rfl, oD a, oD b, dp_o _, dp_o _, shaped_o fit.g _ (pts_ok ha), shaped_o fit.g _ (pts_ok hb), _, rfl, ?_⟩
    rw [eqv_o, decide_eq_false ne]
    refine iteF ?_
    have S3 := (sG.trans s2).trans s3
    refine ⟨_, rfl, rfl, rfl, m, gs, rs, rfl, hm.same S3, fit, fun c H4 n4 ch s4 => ?_⟩
    obtain ⟨dz, fq, eo, lkc⟩ := ch.ins
    refine ⟨_, rfl, c, dz, fq, rfl, eo, lkc _ (by decide +kernel) (by decide +kernel) (by decide +kernel) (by decide +kernel), rfl, rfl, ?_⟩
    refine ⟨c, gs, rs, rfl, ch, cfit fit, fun hg H5 s5 => absurd hg nn, fun hg H5 s5 => ⟨_, rfl, iteF ?_⟩⟩
    exact ⟨_, rfl, q c H5 (S3.free n4) (ch.same s5) ((S3.trans s4).trans s5)⟩
theorem ok_tgt {f : Addr} {fd : FuncData} (F : Fun K "tightest" "tightest" sTgt f fd) (T : Bi mg) (V0 : Hv2 P w K mg base D) (CF : Has P w K mg base "_chains_for" 5 ["moves", "first", "second"] (spCfr P w C D)) :
    FnG P w K mg base CX0 6 f fd ["moves", "first", "second"] (spTgt C) := by
  refine okG F scTgt (fun vs H Q E h => ?_) (fun cdv A out s H vs Q E g hr h => ?_)
  · obtain ⟨m, gs, rs, a, b, rfl, _⟩ := h
    rfl
  · obtain ⟨m, gs, rs, a, b, rfl, hm, fit, ha, hb, ne, nn, q⟩ := h
    have hr1 : Room 1 _ := hr.mono (by decide)
    have hr5 : Room 5 _ := hr
    refine ⟨_, (pss_one (ps_ret (pe_hasM (n := 2) V0.ti V0.cl g hr1 rfl (pe_has CF g hr5 (by rfl) (pa_cons (pv 0) (pa_cons (pv 1) (pa_cons (pv 2) pa_nil)))) (pa_cons (pv 1) (pa_cons (pv 2) pa_nil))))), ?_⟩
    refine ⟨_, rfl, _, rfl, _, rfl, rfl, rfl, m, gs, rs, a, b, rfl, hm, fit, ha, hb, ne, nn, fun c H1 n1 ch s1 => ?_⟩
    obtain ⟨dz, fq, eo, lk⟩ := ch.ins
    refine ⟨c, dz, fq, rfl, eo, lk _ (by decide +kernel) (by decide +kernel) (by decide +kernel) (by decide +kernel), _, rfl, _, rfl, rfl, rfl, ?_⟩
    exact ⟨c, gs, rs, a, b, rfl, ch, cfit fit, ha, nn, fun x H2 lx s2 => q x H2 lx (s1.trans s2)⟩
theorem ok_chn {f : Addr} {fd : FuncData} (F : Fun K "chain" "chain" sChn f fd) (T : Bi mg) (V0 : Hv2 P w K mg base D) (CF : Has P w K mg base "_chains_for" 5 ["moves", "first", "second"] (spCfr P w C D)) :
    FnG P w K mg base CX0 6 f fd ["moves", "first", "second"] (spChn C) := by
  refine okG F scChn (fun vs H Q E h => ?_) (fun cdv A out s H vs Q E g hr h => ?_)
  · obtain ⟨m, gs, rs, a, b, rfl, _⟩ := h
    rfl
  · obtain ⟨m, gs, rs, a, b, rfl, hm, fit, ha, hb, ne, nn, qn, qy⟩ := h
    have hr2 : Room 2 _ := hr.mono (by decide)
    have hr5 : Room 5 _ := hr
    refine ⟨_, (pss_one (ps_ret (pe_hasM (n := 2) V0.cn V0.cl g hr2 rfl (pe_has CF g hr5 (by rfl) (pa_cons (pv 0) (pa_cons (pv 1) (pa_cons (pv 2) pa_nil)))) (pa_cons (pv 1) (pa_cons (pv 2) pa_nil))))), ?_⟩
    refine ⟨_, rfl, _, rfl, _, rfl, rfl, rfl, m, gs, rs, a, b, rfl, hm, fit, ha, hb, ne, nn, fun c H1 n1 ch s1 => ?_⟩
    obtain ⟨dz, fq, eo, lk⟩ := ch.ins
    refine ⟨c, dz, fq, rfl, eo, lk _ (by decide +kernel) (by decide +kernel) (by decide +kernel) (by decide +kernel), _, rfl, _, rfl, rfl, rfl, ?_⟩
    exact ⟨c, gs, rs, a, b, rfl, ch, cfit fit, ha, ne, nn, fun H2 lx s2 => qn H2 lx (s1.trans s2), fun L H2 l t lx cl h5 nL eL s2 => qy L H2 l t lx cl h5 (s1.free nL) eL (s1.trans s2)⟩
end
end KM

set_option Elab.async false
set_option linter.all false
set_option maxRecDepth 100000
set_option maxHeartbeats 4000000
set_option exponentiation.threshold 100
namespace KM
open PySem PySem.Spec PyProof.Rows L2 GL
/-! changes of any worth; the conditions that they break -/
abbrev sKa : Stmt := top 28
abbrev sAj : Stmt := top 37
abbrev sPb : Stmt := top 47
abbrev sIsm : Stmt := top 48
abbrev sBrk : Stmt := top 50
theorem strs_val {l : List Str} {f : Str → V} {x : Str} (h : x ∈ l) : valV (l.map fun y => ((Sum.inr y : L2.Key), f y)) (Sum.inr x) = some (f x) := by
  induction l with
  | nil => cases h
  | cons a r ih =>
    by_cases e : x = a
    · subst e
      exact valV_pos rfl
    · have h1 : ¬ (Sum.inr a : L2.Key) = Sum.inr x := fun z => e (by cases z; rfl)
      exact (valV_neg (p := ((Sum.inr a : L2.Key), f a)) h1).trans (ih ((List.mem_cons.mp h).resolve_left e))
abbrev nAj : List Str := ["names", "value", "name"]
/-- a dict locked, what is made meanwhile, the dict unlocked -/
theorem same_unlock {H H' : Hp} {d : Addr} {od : Obj} {u : HO} (e : H d = some u) (s : Same (upd H d (.frz od u)) H') : Same H (upd H' d u) := fun a o h => by
  by_cases z : a = d
  · subst z
    rw [e] at h
    rw [upd_same]
    exact h
  · rw [upd_ne z]
    exact s _ _ (by rw [upd_ne z]; exact h)
/-- an integer or a Ratio -/
def NumV (R : Addr) (H : Hp) (v : V) (q : Rat) : Prop := (∃ i : Int, v = .int i ∧ q = (i : Rat)) ∨ ∃ a, v = .ref a ∧ RatQ R H a q
theorem NumV.same {R : Addr} {H H' : Hp} {v : V} {q : Rat} (h : NumV R H v q) (s : Same H H') : NumV R H' v q := h.imp id fun ⟨a, e, r⟩ => ⟨a, e, r.same s⟩
abbrev kvD (hs : List Str) (av : Str → V) : List (L2.Key × V) := hs.map fun x => ((Sum.inr x : L2.Key), av x)
/-- a dict from some goods to numbers -/
def NumD (R : Addr) (H : Hp) (d : Addr) (hs : List Str) (g : Pt → Rat) : Prop := ∃ av : Str → V, H d = some (.dK (kvD hs av)) ∧ ∀ x ∈ hs, NumV R H (av x) (g (some x)) ∧ Bd 400 (g (some x))
theorem NumD.same {R : Addr} {H H' : Hp} {d : Addr} {hs : List Str} {g : Pt → Rat} (h : NumD R H d hs g) (s : Same H H') : NumD R H' d hs g := by
  obtain ⟨av, e, r⟩ := h
  exact ⟨av, s _ _ e, fun x hx => ⟨(r x hx).1.same s, (r x hx).2⟩⟩
theorem bd_sub {p q : Rat} {k : Nat} (h1 : Bd k p) (h2 : Bd k q) : Bd (k + k + 1) (p - q) := by
  rw [Rat.sub_def']
  refine mk_bd (Nat.mul_pos p.den_pos q.den_pos) ?_ ?_
  · exact sub_bits (bits_mul h1.t (show ((q.den : Nat) : Int).natAbs < 2 ^ k from h2.b)) (bits_mul h2.t (show ((p.den : Nat) : Int).natAbs < 2 ^ k from h1.b))
  · refine Nat.lt_of_lt_of_le (?_ : p.den * q.den < 2 ^ (k + k)) (Nat.pow_le_pow_right (by decide) (by omega))
    rw [Nat.pow_add]
    exact Nat.mul_lt_mul'' h1.b h2.b
abbrev nKa : List Str := ["names", "value", "key"]
abbrev nPb : List Str := ["moves", "changes", "good", "number", "told", "position", "one", "other", "most"]
theorem scKa : FnScope nKa ["names", "value"] (defScope sKa) := ⟨rfl, rfl, rfl, by decide +kernel, rfl, by decide +kernel, by decide +kernel⟩
theorem scAj : FnScope nAj ["names", "value"] (defScope sAj) := ⟨rfl, rfl, rfl, by decide +kernel, rfl, by decide +kernel, by decide +kernel⟩
theorem scPb : FnScope nPb ["moves", "changes"] (defScope sPb) := ⟨rfl, rfl, rfl, by decide +kernel, rfl, by decide +kernel, by decide +kernel⟩
theorem scIsm : FnScope ["moves", "value"] ["moves", "value"] (defScope sIsm) := ⟨rfl, rfl, rfl, by decide +kernel, rfl, by decide +kernel, by decide +kernel⟩
theorem scBrk : FnScope ["moves", "move"] ["moves", "move"] (defScope sBrk) := ⟨rfl, rfl, rfl, by decide +kernel, rfl, by decide +kernel, by decide +kernel⟩
/-- the told numbers: a place's Ratio -/
def ToldQ (P : Program) (w : World) (R : Addr) (H : Hp) (t : Addr) (l : List Pt) (g : Pt → Rat) (n : Nat) : Prop := ∃ kvs : List (NK × V), H t = some (NDo P w t kvs) ∧ kvs.length ≤ n ∧ ∀ p ∈ l, ∃ a, valV kvs (kO p) = some (.ref a) ∧ RatQ R H a (g p)
theorem ToldQ.same {P : Program} {w : World} {R : Addr} {H H' : Hp} {t : Addr} {l : List Pt} {g : Pt → Rat} {n : Nat} (h : ToldQ P w R H t l g n) (s : Same H H') : ToldQ P w R H' t l g n := by
  obtain ⟨kvs, e, ln, f⟩ := h
  exact ⟨kvs, s _ _ e, ln, fun p hp => by obtain ⟨a, b, c⟩ := f p hp; exact ⟨a, b, c.same s⟩⟩
theorem ToldQ.get {P : Program} {w : World} {R : Addr} {H : Hp} {t : Addr} {l : List Pt} {g : Pt → Rat} {n : Nat} {p : Pt} (h : ToldQ P w R H t l g n) (hp : p ∈ l) : ∃ a, OGet P w H t (oV p) (some (.ref a)) ∧ RatQ R H a (g p) := by
  obtain ⟨kvs, e, ln, f⟩ := h
  obtain ⟨a, b, c⟩ := f p hp
  exact ⟨a, .inl ⟨kvs, kO p, e, (nV_kO p).symm, b.symm⟩, c⟩
theorem ToldQ.put {P : Program} {w : World} {R : Addr} {H : Hp} {t a : Addr} {l : List Pt} {g : Pt → Rat} {n : Nat} {p : Pt} {W : Hp → Prop} (h : ToldQ P w R H t l g n) (ra : RatQ R H a (g p)) (hn : n < 1000) (hW : ∀ H', ToldQ P w R H' t (l ++ [p]) g (n + 1) → But t H H' → W H') :
    OPut P w H t (oV p) (.ref a) W := by
  obtain ⟨kvs, e, ln, f⟩ := h
  refine .inl ⟨kvs, kO p, e, (nV_kO p).symm, small1000 (by omega), fun H' e' bt => hW H' ⟨_, e', Nat.le_trans (length_putK kvs _ _) (Nat.succ_le_succ ln), fun q hq => ?_⟩ bt⟩
  have keep : ∀ {b : Addr} {i : Rat}, RatQ R H b i → RatQ R H' b i := fun {b i} ⟨dx, z⟩ => ⟨dx, bt _ _ (ne_of z e (by intro y; cases y)) z⟩
  by_cases c : q = p
  · subst c
    exact ⟨a, by rw [valV_put, if_pos rfl], keep ra⟩
  · obtain ⟨b, e1, e2⟩ := f q ((List.mem_append.mp hq).resolve_right fun z => c (List.mem_singleton.mp z))
    exact ⟨b, by rw [valV_put, if_neg (fun z => c (kO_inj z))]; exact e1, keep e2⟩
/-- the number of a place, None at 0 -/
abbrev KeptQ (g : Pt → Rat) (rs : List Row) : Prop := ∀ c ∈ rs, g c.1 - g c.2.1 ≤ (c.2.2 : Rat)
def brk (g : Pt → Rat) (rs : List Row) (i : Nat) : Bool := (rs[i]?).any fun r => !decide (g r.1 - g r.2.1 ≤ (r.2.2 : Rat))
theorem brk_none {g : Pt → Rat} {rs : List Row} : (List.range rs.length).filter (brk g rs) = [] ↔ KeptQ g rs := by
  rw [List.filter_eq_nil_iff]
  constructor
  · intro h c hc
    obtain ⟨i, hi, ei⟩ := List.mem_iff_getElem.mp hc
    have := h i (List.mem_range.mpr hi)
    unfold brk at this
    rw [List.getElem?_eq_getElem hi, ei] at this
    by_cases q : g c.1 - g c.2.1 ≤ (c.2.2 : Rat)
    · exact q
    · rw [Option.any_some, decide_eq_false q] at this
      exact absurd rfl this
  · intro h i hi
    have hi := List.mem_range.mp hi
    unfold brk
    rw [List.getElem?_eq_getElem hi, Option.any_some, decide_eq_true (h _ (List.getElem_mem hi))]
    simp
def spJ2 (R : Addr) : Sp := fun vs H Q _ => ∃ (G d : Addr) (gs hs : List Str) (g : Pt → Rat), vs = [.ref G, .ref d] ∧ H G = some (.lst (gs.map V.str)) ∧ NumD R H d hs g ∧ hs.Perm gs ∧ gs.length ≤ 4 ∧ ∀ H', Same H H' → Q (.bl true) H'
def spPb2 (C R : Addr) : Sp := fun vs H Q _ => ∃ m d gs rs hs g, vs = [.ref m, .ref d] ∧ MovesAt C H m gs rs ∧ Fit gs rs ∧ NumD R H d hs g ∧ hs.Perm gs ∧ g none = 0 ∧ ∀ L H', H L = none → H' L = some (.lst (((List.range rs.length).filter (brk g rs)).map nI)) → Same H H' → Q (.ref L) H'
def spIsm2 (C R : Addr) : Sp := fun vs H Q _ => ∃ m d gs rs hs g, vs = [.ref m, .ref d] ∧ MovesAt C H m gs rs ∧ Fit gs rs ∧ NumD R H d hs g ∧ hs.Perm gs ∧ g none = 0 ∧ ∀ b H', (b = true ↔ KeptQ g rs) → Same H H' → Q (.bl b) H'
section
variable {P : Program} {w : World} {K : PySem.W.Frag} {mg : Str → Option Value} {base : Heap} {C D R : Addr}
theorem qa_ref {op : Rat → Rat → Rat} (vs : List V) (H : Hp) (Q : VK) (h : spQa R op vs H Q E0) : spQa R op vs H (fun v H1 => (∃ a, v = .ref a) ∧ Q v H1) E0 := by
  obtain ⟨x, y, p, q, e, a, b1, b2, c, z⟩ := h
  exact ⟨x, y, p, q, e, a, b1, b2, c, fun z0 H' n rt s' => ⟨⟨z0, rfl⟩, z z0 H' n rt s'⟩⟩
theorem ok_keyed2 {f : Addr} {fd : FuncData} (F : Fun K "is_keyed_among" "is_keyed_among" sKa f fd) (T : Bi mg) (AM : Has P w K mg base "is_among" 1 ["names", "value"] (spAmo K)) : FnG P w K mg base CX0 2 f fd ["names", "value"] (spJ2 R) := by
  refine okG F scKa (fun vs H Q E h => ?_) (fun cdv A out s H vs Q E g hr h => ?_)
  · obtain ⟨G, d, gs, hs, g, rfl, _⟩ := h
    rfl
  · obtain ⟨G, d, gs, hs, gg, rfl, eG, ⟨av, ed, rt⟩, pm, l2, q⟩ := h
    have lh := pm.length_eq
    have hr1 : Room 1 _ := hr
    have szl := sizeLine_eq
    refine ⟨_, (pss_one (ps_ret (pe_and (pe_callB call_isi (by rfl) T.isinstance (by decide +kernel) (pa_cons (pv 1) (pa_cons (pe_bltn (v := .ty "dict") (u := .type "dict") (by rfl) T.dict (by decide +kernel) rfl) pa_nil))) (pe_one (pe_callB (cr_all (by rfl)) (by rfl) T.all (by decide +kernel) (pa_cons (pe_lock (pe_lc (own := [("key", 2)]) (g := gName 2) (tt := tYes) (te := tGo (["names", "value"] : List Str).length 0 (spAmo K) (fun vs _ => vs) E0 (tCons (tVar 0) (tCons (tVar 2) tNil)) tNil) (by rfl) scKa.nd (pi_keys (pv 1)) (blkOk_by (own := [("key", 2)]) (N := nKa) (sc := defScope sKa) (by decide +kernel)) (fun _ _ _ _ _ => by exact (pg_name (i := 2) scKa.nd rfl (.inl rfl))) (fun _ _ _ _ _ => pts_nil) (fun _ _ _ _ _ => by exact (pe_has AM g hr1 (by rfl) (pa_cons (pv 0) (pa_cons (pv 2) pa_nil)))))) pa_nil)))))), ?_⟩
    refine ⟨_, rfl, .ref d, .ty "dict", .type "dict", .type "dict", true, rfl, .ty "dict", .base (.dK ed), kit_ty (by decide +kernel), true, rfl, ?_⟩
    refine ⟨d, _, ed, trivial, fun od => ?_⟩
    have eF : (upd H d (.frz od (.dK (hs.map fun x => ((Sum.inr x : L2.Key), av x))))) d = some (.frz od (.dK (hs.map fun x => ((Sum.inr x : L2.Key), av x)))) := upd_same
    have eGF : (upd H d (.frz od (.dK (hs.map fun x => ((Sum.inr x : L2.Key), av x))))) G = some (.lst (gs.map V.str)) := by rw [upd_ne (ne_of eG ed (by intro z; cases z))]; exact eG
    have unl : ∀ {H' : Hp}, Same (upd H d (.frz od (.dK (hs.map fun x => ((Sum.inr x : L2.Key), av x))))) H' → Same H (upd H' d (.dK (hs.map fun x => ((Sum.inr x : L2.Key), av x)))) := fun {H'} z => same_unlock ed z
    generalize upd H d (.frz od (.dK (hs.map fun x => ((Sum.inr x : L2.Key), av x)))) = HF at eF eGF unl
    refine ⟨_, rfl, d, od, rfl, .inl ⟨_, eF, ?_⟩⟩
    intro L nL
    refine lc_it (walk_keys (d := d) (o := od) (kvs := hs.map fun x => ((Sum.inr x : L2.Key), av x))) (fun i H' => Same HF H' ∧ H' L = some (.lst ((List.replicate i true).map V.bl))) ⟨same_new (Same.refl' _) nL, upd_same⟩ (fun i H' _ ⟨z, _⟩ => z _ _ eF) ?_ ?_
    · rintro i x H2 H3 hi ⟨s2, e2⟩ ⟨rfl, k, v, ek, rfl⟩
      rw [List.length_map] at hi
      have ei : (hs.map fun x => ((Sum.inr x : L2.Key), av x))[i]? = some (Sum.inr hs[i], av hs[i]) := by
        rw [List.getElem?_map, List.getElem?_eq_getElem hi]
        rfl
      have my : hs[i] ∈ hs := List.getElem_mem hi
      generalize hs[i] = y at ei my
      rw [ei] at ek
      cases ek
      refine ⟨rfl, yes_go ?_⟩
      refine ⟨_, rfl, _, rfl, rfl, rfl, y, G, gs, rfl, .inl (SqL.of (s2 _ _ eGF)), fun H4 s4 => ?_⟩
      rw [in_strs (pm.mem_iff.mp my)]
      refine ⟨_, s4 _ _ e2, by rw [List.length_map, List.length_replicate]; exact small1000 (by omega), same_but (s2.trans s4) But.refl.upd nL, ?_⟩
      rw [upd_same, List.replicate_succ', List.map_append]
      rfl
    · rintro H2 ⟨s2, e2⟩
      refine ⟨s2 _ _ eF, ?_⟩
      have edF := s2 _ _ eF
      have su := unl s2
      have e3 : (upd H2 d (.dK (hs.map fun x => ((Sum.inr x : L2.Key), av x)))) L = some (.lst ((List.replicate (hs.map fun x => ((Sum.inr x : L2.Key), av x)).length true).map V.bl)) := by rw [upd_ne (ne_of e2 edF (by intro z; cases z))]; exact e2
      generalize upd H2 d (.dK (hs.map fun x => ((Sum.inr x : L2.Key), av x))) = H3 at su e3
      refine ⟨L, _, rfl, SqL.of e3, ?_⟩
      have z : (List.replicate (hs.map fun x => ((Sum.inr x : L2.Key), av x)).length true).all id = true := by simp
      show Q (V.bl ((List.replicate (hs.map fun x => ((Sum.inr x : L2.Key), av x)).length true).all id)) H3
      rw [z]
      exact q H3 su
theorem ok_just2 {f : Addr} {fd : FuncData} (F : Fun K "are_of_just" "are_of_just" sAj f fd) (T : Bi mg) (KA : Has P w K mg base "is_keyed_among" 2 ["names", "value"] (spJ2 R)) (N : Has P w K mg base "is_number" 2 ["value"] (spNuQ R)) : FnG P w K mg base CX0 3 f fd ["names", "value"] (spJ2 R) := by
  refine okG F scAj (fun vs H Q E h => ?_) (fun cdv A out s H vs Q E g hr h => ?_)
  · obtain ⟨G, d, gs, hs, g, rfl, _⟩ := h
    rfl
  · obtain ⟨G, d, gs, hs, gg, rfl, eG, ⟨av, ed, rt⟩, pm, l2, q⟩ := h
    have lh := pm.length_eq
    have hr2 : Room 2 _ := hr
    have szl := sizeLine_eq
    refine ⟨_, (pss_cons (ps_if (PW.pt (pw_or (pt_not (pt_val (pe_has KA g hr2 (by rfl) (pa_cons (pv 0) (pa_cons (pv 1) pa_nil))))) (pw_or1 (pt_cmpR op_ne (pe_callB call_lenD (by rfl) T.len PySem.boot_len (pa_cons (pv 1) pa_nil)) (pe_callB call_len_seq (by rfl) T.len PySem.boot_len (pa_cons (pv 0) pa_nil)) (nomark _))))) (pss_one (ps_ret pe_bl)) pss_nil)
      (pss_one (ps_ret (pe_callB (cr_all (by rfl)) (by rfl) T.all (by decide +kernel) (pa_cons (pe_lc (own := [("name", 2)]) (g := gName 2) (tt := tYes) (te := tGo (["value"] : List Str).length 0 (spNuQ R) (fun vs _ => vs) E0 (tCons (tDGet (tVar 1) (tVar 2)) tNil) tNil) (by rfl) scAj.nd (pi_list (pv 0)) (blkOk_by (own := [("name", 2)]) (N := nAj) (sc := defScope sAj) (by decide +kernel)) (fun _ _ _ _ _ => by exact (pg_name (i := 2) scAj.nd rfl (.inl rfl))) (fun _ _ _ _ _ => pts_nil) (fun _ _ _ _ _ => by exact (pe_has N g hr2 (by rfl) (pa_cons (pe_dget (by have := hr.units; exact Nat.lt_of_le_of_lt (Nat.add_le_add_left (by decide) _) this) (pv 1) (pv 2) (fun _ _ => rfl)) pa_nil)))) pa_nil))))), ?_⟩
    refine ⟨_, rfl, _, rfl, rfl, rfl, G, d, gs, hs, gg, rfl, eG, ⟨av, ed, rt⟩, pm, l2, fun H0 s0 => ⟨_, rfl, iteF ?_⟩⟩
    have eG0 := s0 _ _ eG
    have ed0 := s0 _ _ ed
    have rt0 : ∀ x ∈ hs, NumV R H0 (av x) (gg (some x)) := fun x hx => (rt x hx).1.same s0
    refine ⟨_, rfl, d, _, rfl, ed0, _, rfl, G, _, rfl, .inl (SqL.of eG0), rfl, _, rfl, ?_⟩
    rw [List.length_map, List.length_map, lh, decide_eq_true rfl]
    refine iteF ?_
    refine ⟨_, rfl, G, rfl, ⟨_, SqL.of eG0⟩, fun L nL => ?_⟩
    refine lc_it (walk_list (K := K) (a := G) (xs := gs.map V.str)) (fun i H' => Same H0 H' ∧ H' L = some (.lst ((List.replicate i true).map V.bl))) ⟨same_new (Same.refl' _) nL, upd_same⟩ (fun i H' _ ⟨z, _⟩ => SqL.of (z _ _ eG0)) ?_ ?_
    · rintro i x H1 H2 hi ⟨s1, e1⟩ ⟨rfl, hx⟩
      obtain ⟨y, hy, rfl⟩ := get_map hx
      have my := pm.mem_iff.mpr (List.mem_of_getElem? hy)
      have hi' : i < gs.length := (List.getElem?_eq_some_iff.mp hy).1
      refine ⟨rfl, yes_go ?_⟩
      refine ⟨_, rfl, _, rfl, d, av y, rfl, ?_, rfl, rfl, ?_⟩
      · have z := DGet.k (k := Sum.inr y) (s1 _ _ ed0)
        rw [strs_val my] at z
        exact z
      have fin : ∀ H3, Same H2 H3 → ∃ xs, H3 L = some (.lst xs) ∧ xs.length < sizeLine ∧ (Same H0 (upd H3 L (.lst (xs ++ [.bl true]))) ∧ (upd H3 L (.lst (xs ++ [.bl true]))) L = some (.lst ((List.replicate (i + 1) true).map V.bl))) := fun H3 s3 => by
        refine ⟨_, s3 _ _ e1, by rw [List.length_map, List.length_replicate]; exact small1000 (by omega), same_but (s1.trans s3) But.refl.upd nL, ?_⟩
        rw [upd_same, List.replicate_succ', List.map_append]
        rfl
      rcases (rt0 y my).same s1 with ⟨n, hv, hq⟩ | ⟨a, hv, ra⟩
      · exact .inr ⟨n, by rw [hv], fun H3 s3 => fin H3 s3⟩
      · exact .inl ⟨a, gg (some y), by rw [hv], ra, fun H3 s3 => fin H3 s3⟩
    · rintro H1 ⟨s1, e1⟩
      refine ⟨L, _, rfl, SqL.of e1, ?_⟩
      have z : (List.replicate (gs.map V.str).length true).all id = true := by simp
      show Q (V.bl ((List.replicate (gs.map V.str).length true).all id)) H1
      rw [z]
      exact q H1 (s0.trans s1)
theorem ok_broken2 {f : Addr} {fd : FuncData} (F : Fun K "positions_broken" "positions_broken" sPb f fd) (T : Bi mg) (M : Mv P w K mg base C) (C2 : Rc K mg R) (RO : Has P w K mg base "ratio_of" 4 ["value"] (spQo R))
    (MK : HasC P w K mg base R 2 ["self", "top", "bottom"] (spQi R) 1 [] (fun vs _ => vs ++ [.int 1])) (SB : HasM P w K mg base R "__sub__" 5 ["self", "other"] (spQa R fun p q => p - q)) (AM : HasM P w K mg base R "is_at_most" 5 ["self", "other"] (spQm R)) (SF : PySem.W.selfFirst K R = true) :
    FnG P w K mg base CX0 6 f fd ["moves", "changes"] (spPb2 C R) := by
  refine okG F scPb (fun vs H Q E h => ?_) (fun cdv A out s H vs Q E g hr h => ?_)
  · obtain ⟨m, d, gs, rs, hs, gg, rfl, _⟩ := h
    rfl
  · obtain ⟨m, d, gs, rs, hs, gg, rfl, hm, fit, ⟨av, ed, rt⟩, pm, g0, q⟩ := h
    have lh := pm.length_eq
    have hr5 : Room 5 _ := hr
    have hr4 : Room 4 _ := hr.mono (by decide)
    have hr3 : Room 3 _ := hr.mono (by decide)
    have hr1 : Room 1 _ := hr.mono (by decide)
    obtain ⟨dx, fs, em, lk⟩ := hm.ins
    have szl := sizeLine_eq
    have l2 := fit.g.l2
    have ln := fit.n
    refine ⟨_, (pss_cons (ps_set (i := 4) scPb.nd rfl (.inr rfl) (pe_lock (pe_oc (own := [("good", 2), ("number", 3)]) (g := gTup K 2 (gCons (gName 2) (gCons (gName 3) gNil))) (tt := tYes) (tk := tVar 2) (tv := tGo (["value"] : List Str).length 0 (spQo R) (fun vs _ => vs) E0 (tCons (tVar 3) tNil) tNil) ⟨rfl, scPb.nd, (pi_items (pv 1)), (blkOk_by (own := [("good", 2), ("number", 3)]) (N := nPb) (sc := defScope sPb) (by decide +kernel)), (fun _ _ _ _ _ => by exact (pg_tup rfl (pgs_cons (pg_name (i := 2) scPb.nd rfl (.inl rfl)) (pgs_cons (pg_name (i := 3) scPb.nd rfl (.inl rfl)) pgs_nil)))), (fun _ _ _ _ _ => pts_nil), (fun _ _ _ _ _ => by exact (pv 2)), (fun _ _ _ _ _ => by exact (pe_has RO g hr4 (by rfl) (pa_cons (pv 3) pa_nil))), (fun _ => rfl), hr.units0⟩ starts_n)))
      (pss_cons (ps_oput (by have := hr.units; exact Nat.lt_of_le_of_lt (Nat.add_le_add_left (by decide) _) this) (pv 4) pe_non (pe_hasC MK g hr3 (by rfl) C2.gR (pa_cons pe_int pa_nil) pk_nil) rfl)
      (pss_one (ps_ret (pe_lc (own := [("position", 5), ("one", 6), ("other", 7), ("most", 8)]) (g := gTup K 2 (gCons (gName 5) (gCons (gTup K 3 (gCons (gName 6) (gCons (gName 7) (gCons (gName 8) gNil)))) gNil))) (tt := tNot (tB (tGoM R "is_at_most" 1 0 (spQm R) (fun vs _ => vs) E0 (tOp (rBinO R (spQa R fun p q => p - q) E0) (tOGet P w (tVar 4) (tVar 6)) (tOGet P w (tVar 4) (tVar 7))) (tCons (tVar 8) tNil) tNil))) (te := tVar 5) (by rfl) scPb.nd (pi_enum (by rfl) T.enumerate (pa_cons (pe_hasM0 M.conds M.cl g hr1 rfl (pv 0)) pa_nil)) (blkOk_by (own := [("position", 5), ("one", 6), ("other", 7), ("most", 8)]) (N := nPb) (sc := defScope sPb) (by decide +kernel)) (fun _ _ _ _ _ => by exact (pg_tup rfl (pgs_cons (pg_name (i := 5) scPb.nd rfl (.inl rfl)) (pgs_cons (pg_tup rfl (pgs_cons (pg_name (i := 6) scPb.nd rfl (.inl rfl)) (pgs_cons (pg_name (i := 7) scPb.nd rfl (.inl rfl)) (pgs_cons (pg_name (i := 8) scPb.nd rfl (.inl rfl)) pgs_nil)))) pgs_nil)))) (fun _ _ _ _ _ => by exact (pts_one (pt_not (pt_val (pe_hasM (n := 1) AM C2.cl g hr5 rfl (pe_op (or_bin SB rfl rfl SF g hr5 qa_ref) (pe_oget (by have := hr.units; exact Nat.lt_of_le_of_lt (Nat.add_le_add_left (by decide) _) this) (pv 4) (pv 6) (fun _ _ => rfl)) (pe_oget (by have := hr.units; exact Nat.lt_of_le_of_lt (Nat.add_le_add_left (by decide) _) this) (pv 4) (pv 7) (fun _ _ => rfl))) (pa_cons (pv 8) pa_nil)))))) (fun _ _ _ _ _ => by exact (pv 5))))))), ?_⟩
    refine ⟨d, _, ed, trivial, fun od => ?_⟩
    have eF : (upd H d (.frz od (.dK (hs.map fun x => ((Sum.inr x : L2.Key), av x))))) d = some (.frz od (.dK (hs.map fun x => ((Sum.inr x : L2.Key), av x)))) := upd_same
    have rtF : ∀ x ∈ hs, NumV R (upd H d (.frz od (.dK (hs.map fun x => ((Sum.inr x : L2.Key), av x))))) (av x) (gg (some x)) := fun x hx => (rt x hx).1.imp id fun ⟨a, hv, dy, e⟩ => ⟨a, hv, dy, by rw [upd_ne (ne_of e ed (by intro z; cases z))]; exact e⟩
    have unl : ∀ {H' : Hp}, Same (upd H d (.frz od (.dK (hs.map fun x => ((Sum.inr x : L2.Key), av x))))) H' → Same H (upd H' d (.dK (hs.map fun x => ((Sum.inr x : L2.Key), av x)))) := fun {H'} z => same_unlock ed z
    have fr : ∀ {a : Addr}, (upd H d (.frz od (.dK (hs.map fun x => ((Sum.inr x : L2.Key), av x))))) a = none → H a = none := fun {a} z => by
      by_cases y : a = d
      · subst y
        rw [eF] at z
        cases z
      · rw [upd_ne y] at z
        exact z
    generalize upd H d (.frz od (.dK (hs.map fun x => ((Sum.inr x : L2.Key), av x)))) = HF at eF rtF unl fr
    refine ⟨_, rfl, d, od, _, rfl, eF, ?_⟩
    intro t H1 n1 e1 s1
    refine oc_walk (walk_items (d := d) (o := od) (kvs := hs.map fun x => ((Sum.inr x : L2.Key), av x))) (fun i H' => Same HF H' ∧ ToldQ P w R H' t ((hs.take i).map some) gg i) ⟨s1, [], e1, Nat.le_refl _, fun p hp => by simp at hp⟩ (fun i H' _ ⟨z, _⟩ => z _ _ eF) ?_ ?_
    · rintro i x H2 H3 hi ⟨s2, t2⟩ ⟨Tp, a, b, rfl, nT, rfl, ea, eb⟩
      rw [List.length_map] at hi
      have ei : (hs.map fun x => ((Sum.inr x : L2.Key), av x))[i]? = some (Sum.inr hs[i], av hs[i]) := by
        rw [List.getElem?_map, List.getElem?_eq_getElem hi]
        rfl
      have hx : hs[i]? = some hs[i] := List.getElem?_eq_getElem hi
      have mx : hs[i] ∈ hs := List.getElem_mem hi
      generalize hs[i] = y at ei hx mx
      dsimp only at ea eb
      rw [ei] at ea eb
      have ea : some (V.str y) = some a := ea
      have eb : some (av y) = some b := eb
      cases ea
      cases eb
      have hT : Same H2 (upd H2 Tp (.tup [.str y, av y])) := same_new (Same.refl' _) nT
      have eT : (upd H2 Tp (.tup [.str y, av y])) Tp = some (.tup [.str y, av y]) := upd_same
      generalize upd H2 Tp (.tup [.str y, av y]) = H3 at hT eT
      refine ⟨Tp, _, rfl, SqT.of eT, rfl, _, _, rfl, _, _, rfl, rfl, rfl, yes_go ?_⟩
      refine ⟨_, rfl, _, rfl, rfl, rfl, ?_⟩
      have fin : ∀ (a : Addr) (H4 : Hp), RatQ R H4 a (gg (some y)) → Same H3 H4 → OPut P w H4 t (V.str y) (.ref a) (fun H5 => Same HF H5 ∧ ToldQ P w R H5 t ((hs.take (i + 1)).map some) gg (i + 1)) := fun a H4 ra s4 => by
        have S4 := (s2.trans hT).trans s4
        refine ((t2.same hT).same s4).put (p := some y) ra (by omega) fun H5 t5 b5 => ⟨same_but S4 b5 n1, ?_⟩
        rw [take_more hx, List.map_append]
        exact t5
      rcases (rtF y mx).same (s2.trans hT) with ⟨n, hv, hq⟩ | ⟨a, hv, ra⟩
      · refine .inr ⟨n, by rw [hv], ?_, fun a H4 n4 r4 s4 => fin a H4 (by rw [hq]; exact r4) s4⟩
        have z := (rt y mx).2.t
        rw [hq, Rat.num_intCast] at z
        exact Nat.lt_of_lt_of_le z (Nat.pow_le_pow_right (by decide) (by decide : 400 ≤ 3000))
      · exact .inl ⟨a, gg (some y), by rw [hv], ra, fun H4 s4 => fin a H4 (ra.same s4) s4⟩
    rintro H2 ⟨s2, t2⟩
    refine ⟨s2 _ _ eF, ?_⟩
    have su := unl s2
    have td : t ≠ d := (ne_some n1 eF)
    rw [List.length_map, List.take_length] at t2
    have t3 : ToldQ P w R (upd H2 d (.dK (hs.map fun x => ((Sum.inr x : L2.Key), av x)))) t (hs.map some) gg hs.length := by
      obtain ⟨kvs, e, l, ff⟩ := t2
      refine ⟨kvs, by rw [upd_ne td]; exact e, l, fun p hp => ?_⟩
      obtain ⟨a, b, dy, z⟩ := ff p hp
      exact ⟨a, b, dy, by rw [upd_ne (ne_of z (s2 _ _ eF) (by intro y; cases y))]; exact z⟩
    have nt : H t = none := fr n1
    generalize upd H2 d (.dK (hs.map fun x => ((Sum.inr x : L2.Key), av x))) = H3 at su t3
    -- told[None] = Ratio(0)
    refine ⟨rfl, rfl, ?_⟩
    refine q_mk (n := 1) (by decide) (by decide) (Nat.one_lt_two_pow (by decide)) fun z H4 nz rz s4 => ?_
    have rz : RatQ R H4 z 0 := by rw [Rat.mkRat_one] at rz; exact rz
    refine ⟨_, rfl, t, rfl, ?_⟩
    refine (t3.same s4).put (p := none) (by rw [g0]; exact rz) (by omega) fun H5 t5 b5 => ?_
    have s5 := same_but (su.trans s4) b5 nt
    refine ⟨_, rfl, m, dx, fs, rfl, s5 _ _ em, lk _ (by decide +kernel) (by decide +kernel), rfl, rfl, m, gs, rs, rfl, hm.same s5, fun B as H6 n6 e6 rows6 s6 => ?_⟩
    refine ⟨B, as.map V.ref, rfl, SqL.of e6, fun L nL => ?_⟩
    have la : (as.map V.ref).length = rs.length := by rw [List.length_map]; exact Paired.length rows6
    have t6 := t5.same s6
    have inl : ∀ {p : Pt}, p ∈ pts gs → p ∈ hs.map some ++ [none] := fun {p} hp => by
      rcases List.mem_cons.mp hp with e | hp
      · exact List.mem_append_right _ (by rw [e]; exact List.mem_singleton.mpr rfl)
      · exact List.mem_append_left _ (((pm.map some).mem_iff).mpr hp)
    refine lc_it (walk_enum (K := K) (a := B) (xs := as.map V.ref)) (fun i H' => Same H6 H' ∧ H' L = some (.lst (((List.range i).filter (brk gg rs)).map nI))) ?_ ?_ ?_ ?_
    · exact ⟨same_new (Same.refl' _) nL, upd_same⟩
    · exact fun i H' _ ⟨z, _⟩ => SqL.of (z _ _ e6)
    · rintro i x J1 J2 hi ⟨s7, e7⟩ ⟨Tp, a, b, rfl, nT, rfl, ea, eb⟩
      cases ea
      obtain ⟨tr, r, rfl, er, et⟩ := rows_at (rows_same rows6 s7) eb
      have gr := fit.r r (List.mem_of_getElem? er)
      rw [la] at hi
      have hT : Same J1 (upd J1 Tp (.tup [.int (i : Nat), .ref tr])) := same_new (Same.refl' _) nT
      have eT : (upd J1 Tp (.tup [.int (i : Nat), .ref tr])) Tp = some (.tup [.int (i : Nat), .ref tr]) := upd_same
      have et3 := hT _ _ et
      have s8 := s7.trans hT
      have e8 := hT _ _ e7
      generalize upd J1 Tp (.tup [.int (i : Nat), .ref tr]) = J2 at hT eT et3 s8 e8
      refine ⟨Tp, _, rfl, SqT.of eT, rfl, _, _, rfl, _, _, rfl, tr, _, rfl, SqT.of et3, rfl, _, _, rfl, _, _, rfl, _, _, rfl, rfl, rfl, rfl, ?_⟩
      obtain ⟨a1, o1, r1⟩ := (t6.same s8).get (inl (in_pts gr.one))
      obtain ⟨a2, o2, r2⟩ := (t6.same s8).get (inl (in_pts gr.two))
      obtain ⟨d1, x1⟩ := id r1
      obtain ⟨d2, x2⟩ := id r2
      refine ⟨_, rfl, _, rfl, t, _, rfl, o1, _, rfl, _, rfl, t, _, rfl, o2, ?_⟩
      have bd : ∀ {p : Pt}, p ∈ pts gs → Bd 400 (gg p) := fun {p} hp => by
        cases p with
        | none => rw [g0]; exact ⟨by decide, by decide⟩
        | some y => exact (rt y (pm.mem_iff.mpr (pts_ok hp y rfl))).2
      have b1 := bd (in_pts gr.one)
      have b2 := bd (in_pts gr.two)
      have b3 := bd_sub b1 b2
      have mb : r.2.2.natAbs < 2 ^ 1000 := Nat.lt_of_le_of_lt gr.most (Nat.lt_of_lt_of_le (by decide : 1000000000000000000000000000000 < 2 ^ 100) (Nat.pow_le_pow_right (by decide) (by decide)))
      refine ⟨a1, d1, _, a2, d2, _, rfl, rfl, x1, x2, a1, .ref a2, gg r.1, gg r.2.1, rfl, r1, b1.up (by decide), b2.up (by decide), .inl ⟨a2, rfl, r2⟩, fun z2 J3 n3 rz3 s9 => ?_⟩
      obtain ⟨d3, x3⟩ := id rz3
      refine ⟨z2, d3, _, rfl, x3, fq_o (by decide +kernel) (by decide +kernel), _, rfl, rfl, rfl, z2, gg r.1 - gg r.2.1, r.2.2, rfl, rz3, b3.up (by decide), mb, fun J4 s10 => ⟨_, rfl, ?_⟩⟩
      have S10 := (s8.trans s9).trans s10
      have e10 := s10 _ _ (s9 _ _ e8)
      have bk : brk gg rs i = !decide (gg r.1 - gg r.2.1 ≤ (r.2.2 : Rat)) := by
        unfold brk
        rw [er, Option.any_some]
      rw [range_filter_snoc, bk]
      by_cases c0 : gg r.1 - gg r.2.1 ≤ (r.2.2 : Rat)
      · rw [decide_eq_true c0]
        refine iteF ⟨S10, ?_⟩
        rw [if_neg (by simp), List.append_nil]
        exact e10
      · rw [decide_eq_false c0]
        refine iteT ?_
        refine ⟨_, rfl, _, e10, small1000 (by rw [List.length_map]; have := List.length_filter_le (brk gg rs) (List.range i); rw [List.length_range] at this; omega), same_but S10 But.refl.upd nL, ?_⟩
        rw [upd_same, if_pos (by rfl), List.map_append]
        rfl
    · rintro J1 ⟨s7, e7⟩
      rw [la] at e7
      exact q L J1 ((s5.trans s6).free nL) e7 ((s5.trans s6).trans s7)
theorem ok_ismove2 {f : Addr} {fd : FuncData} (F : Fun K "is_move" "is_move" sIsm f fd) (T : Bi mg) (M : Mv P w K mg base C) (AJ : Has P w K mg base "are_of_just" 3 ["names", "value"] (spJ2 R)) (PB : Has P w K mg base "positions_broken" 6 ["moves", "changes"] (spPb2 C R)) :
    FnG P w K mg base CX0 7 f fd ["moves", "value"] (spIsm2 C R) := by
  refine okG F scIsm (fun vs H Q E h => ?_) (fun cdv A out s H vs Q E g hr h => ?_)
  · obtain ⟨m, d, gs, rs, hs, gg, rfl, _⟩ := h
    rfl
  · obtain ⟨m, d, gs, rs, hs, gg, rfl, hm, fit, rd, pm, g0, q⟩ := h
    have hr6 : Room 6 _ := hr
    have hr3 : Room 3 _ := hr.mono (by decide)
    have hr1 : Room 1 _ := hr.mono (by decide)
    obtain ⟨dx, fs, em, lk⟩ := hm.ins
    refine ⟨_, (pss_one (ps_ret (pe_and (pe_has AJ g hr3 (by rfl) (pa_cons (pe_hasM0 M.goods M.cl g hr1 rfl (pv 0)) (pa_cons (pv 1) pa_nil))) (pe_one (pe_cmpR op_eq (pe_callB call_len_seq (by rfl) T.len PySem.boot_len (pa_cons (pe_has PB g hr6 (by rfl) (pa_cons (pv 0) (pa_cons (pv 1) pa_nil))) pa_nil)) pe_int (nomark _)))))), ?_⟩
    refine ⟨_, rfl, m, dx, fs, rfl, em, lk _ (by decide +kernel) (by decide +kernel), rfl, rfl, m, gs, rs, rfl, hm, fun G H1 n1 e1 s1 => ?_⟩
    refine ⟨_, rfl, rfl, rfl, G, d, gs, hs, gg, rfl, e1, rd.same s1, pm, fit.g.l2, fun H2 s2 => ⟨true, rfl, ?_⟩⟩
    refine ⟨_, rfl, _, rfl, rfl, rfl, m, d, gs, rs, hs, gg, rfl, hm.same (s1.trans s2), fit, rd.same (s1.trans s2), pm, g0, fun L H3 n3 e3 s3 => ?_⟩
    refine ⟨L, _, rfl, .inl (SqL.of e3), rfl, ?_⟩
    refine q _ H3 ?_ ((s1.trans s2).trans s3)
    rw [decide_eq_true_iff, ← brk_none, List.length_map]
    constructor
    · intro h
      injection h with h
      exact List.length_eq_zero_iff.mp (by omega)
    · intro h
      rw [h]
      rfl
theorem ok_brk {f : Addr} {fd : FuncData} (F : Fun K "broken" "broken" sBrk f fd) (T : Bi mg) (M : Mv P w K mg base C) (AJ : Has P w K mg base "are_of_just" 3 ["names", "value"] (spJ2 R)) (PB : Has P w K mg base "positions_broken" 6 ["moves", "changes"] (spPb2 C R)) :
    FnG P w K mg base CX0 7 f fd ["moves", "move"] (spPb2 C R) := by
  refine okG F scBrk (fun vs H Q E h => ?_) (fun cdv A out s H vs Q E g hr h => ?_)
  · obtain ⟨m, d, gs, rs, hs, gg, rfl, _⟩ := h
    rfl
  · obtain ⟨m, d, gs, rs, hs, gg, rfl, hm, fit, rd, pm, g0, q⟩ := h
    have hr6 : Room 6 _ := hr
    have hr3 : Room 3 _ := hr.mono (by decide)
    have hr1 : Room 1 _ := hr.mono (by decide)
    obtain ⟨dx, fs, em, lk⟩ := hm.ins
    refine ⟨_, (pss_cons (ps_if (pt_not (pt_val (pe_has AJ g hr3 (by rfl) (pa_cons (pe_hasM0 M.goods M.cl g hr1 rfl (pv 0)) (pa_cons (pv 1) pa_nil))))) (pss_one L2.ps_never) pss_nil)
      (pss_one (ps_ret (pe_has PB g hr6 (by rfl) (pa_cons (pv 0) (pa_cons (pv 1) pa_nil)))))), ?_⟩
    refine ⟨_, rfl, m, dx, fs, rfl, em, lk _ (by decide +kernel) (by decide +kernel), rfl, rfl, m, gs, rs, rfl, hm, fun G H1 n1 e1 s1 => ?_⟩
    refine ⟨_, rfl, rfl, rfl, G, d, gs, hs, gg, rfl, e1, rd.same s1, pm, fit.g.l2, fun H2 s2 => ⟨_, rfl, iteF ?_⟩⟩
    refine ⟨_, rfl, _, rfl, rfl, rfl, m, d, gs, rs, hs, gg, rfl, hm.same (s1.trans s2), fit, rd.same (s1.trans s2), pm, g0, fun L H3 n3 e3 s3 => ?_⟩
    exact q L H3 ((s1.trans s2).free n3) e3 ((s1.trans s2).trans s3)
end
end KM

set_option Elab.async false
set_option linter.all false
set_option maxRecDepth 100000
set_option maxHeartbeats 4000000
namespace GL
open PySem PySem.Spec PyProof.Rows L2
/-! repr of None, of a dict of own objects as it stands -/
def rReprNon : List V → Hp → VK → Prop := fun xs H Q => xs = [.non] ∧ Q (.str (PyData.none).shown) H
theorem call_repr_non {X : Cx} (g : Clr X.A) (hu : X.A.units + 64 < cLine) : CallR X (.builtin "repr") rReprNon := by
  intro pins s σ H vs us Q I r h
  obtain ⟨rfl, q⟩ := h
  cases r with
  | cons r1 r2 =>
    cases r2
    have r1' : _ = Value.none := r1
    subst r1'
    refine call_repr_slot (T := "NoneType") (by omega) rfl PySem.F.slot_NoneType_repr.toG ?_
    refine wpAny_call_entry PySem.F.slot_NoneType_repr rfl PySem.F.entry_NoneType_repr ?_ (PySem.F.args_NoneType_repr_1 _)
    unfold Builtin.«NoneType.__repr__»
    wp_walk
    exact ⟨_, rfl, _, _, rfl, .str (PyData.none).shown, H, I.tok _, ⟨_, rfl⟩, q⟩
def rReprRU (C : Addr) (sp : Sp) : List V → Hp → VK → Prop := fun vs H Q => ∃ (a : Addr) (kvs : List (L2.Key × V)) (ts : List Str), vs = [.ref a] ∧ H a = some (.dK kvs) ∧ (∀ od, ShowsE C sp (upd H a (.frz od (.dK kvs))) kvs ts) ∧ (dictText ts).length ≤ sizeLine ∧ ∀ H', Same H H' → Q (.str (dictText ts)) H'
/-- the class shows itself so -/
structure HasR (P : Program) (w : World) (K : PySem.W.Frag) (mg : Str → Option Value) (base : Heap) (C : Addr) (k : Nat) (sp : Sp) : Prop where
  ex : ∃ f fd, FnOk P w K mg base CX0 k f fd ["self"] sp ∧ KBn K fd ["self"] 1 [] (fun us _ => us) (fun vs _ => vs) ∧ PySem.W.findIn K (.ref C) "__repr__" = some (some (.ref f)) ∧ PySem.W.isFn K (.ref f) = true
theorem call_repr_RU {X : Cx} {k : Nat} {C : Addr} {sp : Sp} (h : HasR X.prog X.w X.K X.mg X.base C k sp) (g : Clr X.A) (hr : Room (k + 3) X.A) : CallR X (.builtin "repr") (rReprRU C sp) := by
  intro pins s σ H vs us Q I r hq
  obtain ⟨f, fd, F, hb, hs, hf⟩ := h.ex
  obtain ⟨a, kvs, ts, rfl, ea, sh, hz, q⟩ := hq
  obtain ⟨od, I1⟩ := Inv.lock I ea trivial
  refine thn (call_repr_RD g hr F hb hs hf pins s σ (upd H a (.frz od (.dK kvs))) [.ref a] us (fun v H' => v = .str (dictText ts) ∧ Same (upd H a (.frz od (.dK kvs))) H') I1 r ⟨a, od, kvs, ts, rfl, upd_same, sh od, hz, fun H' s' => ⟨rfl, s'⟩⟩) ?_
  rintro v s1 ⟨x, H1, I2, r2, rfl, sm⟩
  exact ⟨_, upd H1 a (.dK kvs), Inv.unlock I2 (sm _ _ upd_same) (Inv.nofrz I ea trivial), r2, q _ (KM.same_unlock ea sm)⟩
theorem cr_repr3 {X : Cx} {k : Nat} {C : Addr} {sp : Sp} (h : HasR X.prog X.w X.K X.mg X.base C k sp) (g : Clr X.A) (hr : Room (k + 3) X.A) (hu : X.A.units + 64 < cLine) : CallR X (.builtin "repr") (fun vs H Q => rReprNon vs H Q ∨ rReprRU C sp vs H Q) := by
  intro pins s σ H vs us Q I r hq
  rcases hq with hq | hq
  · exact call_repr_non g hu pins s σ H vs us Q I r hq
  · exact call_repr_RU h g hr pins s σ H vs us Q I r hq
end GL
namespace GL
open PySem PySem.Spec PyProof.Rows L2
/-! rules that hand on the heap as a letter -/
section
variable {X : Cx}
def tClos (te : TE) : TE := fun σ H Q => ∃ Q0 : VK, te σ H Q0 ∧ ∀ x H1, Q0 x H1 → Q x H1
theorem pe_clos {e : Expr} {te : TE} (h : PE X e te) : PE X e (tClos te) := by
  constructor
  rintro pins s σ H Q I ⟨Q0, k, m⟩
  exact thn (h.run pins s σ H Q0 I k) fun v s' ⟨x, H1, I1, r, q⟩ => ⟨x, H1, I1, r, m _ _ q⟩
def tRevN (K : PySem.W.Frag) (te : TE) : TE := fun σ H Q => te σ H fun x H1 => ∃ (a : Addr) (xs : List V), x = .ref a ∧ SqL K H1 a xs ∧ NewK H1 (.lst xs.reverse) Q
theorem pe_revN {e : Expr} {te : TE} {k : Nat} {p1 p2 p3 pos : Pos} (h : PE X e te) : PE X (.Subscript e (.Slice none none (some (.UnaryOp .USub (.Constant (.int 1) k p1) p2)) p3) pos) (tRevN X.K te) := by
  constructor
  intro pins s σ H Q I q
  exact (pe_revL (pe_clos h)).run pins s σ H Q I ⟨_, q, fun x H1 ⟨a, xs, e, sq, k⟩ => ⟨a, xs, e, sq, k.go⟩⟩
def rRepL : R2 := fun x y H Q => ∃ (l : Addr) (k : Int) (xs : List V), x = .ref l ∧ y = .int k ∧ H l = some (.lst xs) ∧ -(2 ^ 63) ≤ k ∧ k < 2 ^ 63 ∧ xs.length * k.toNat ≤ sizeLine ∧ NewK H (.lst (List.replicate k.toNat xs).flatten) Q
theorem op_repL : OpR X (binaryOp .Mult) rRepL := by
  intro pins s σ H x y v u Q I rx ry ⟨l, k, xs, a, b, c, d, e, f, q⟩
  exact op_rep pins s σ H x y v u Q I rx ry ⟨l, k, xs, a, b, c, d, e, f, q.go⟩
def rListDL : List V → Hp → VK → Prop := fun xs H Q => ∃ (a : Addr) (kvs : List (L2.Key × V)), xs = [.ref a] ∧ Rd H a (.dK kvs) ∧ NewK H (.lst (kvs.map fun kv => kV kv.1)) Q
theorem call_listDL (hc : X.calm = true) : CallR X (.type "list") rListDL := by
  intro pins s σ H xs us Q I r ⟨a, kvs, e, rd, q⟩
  exact call_listD hc pins s σ H xs us Q I r ⟨a, kvs, e, rd, q.go⟩
end
end GL

set_option linter.all false
/-! All chains of few positions, one level behind another. -/
namespace KN
variable {P : Type} [DecidableEq P]
theorem PL.snoc {C : List (Cond P)} {a b c : P} {l : List Nat} {s m : Int} {i : Nat} (h : PL C a b l s) (e : C[i]? = some (b, c, m)) : PL C a c (l ++ [i]) (s + m) := by
  induction h with
  | nil =>
    have := PL.cons e .nil
    simpa using this
  | @cons a d b j m' s' l e' _ ih =>
    have := PL.cons e' (ih e)
    rw [List.cons_append, Int.add_assoc]
    exact this
theorem PL.unsnoc {C : List (Cond P)} {i : Nat} : ∀ {l : List Nat} {a c : P} {s : Int}, PL C a c (l ++ [i]) s → ∃ b m t, PL C a b l t ∧ C[i]? = some (b, c, m) ∧ s = t + m
  | [], a, c, s, h => by
    cases h with
    | @cons _ d _ _ m s' _ e w =>
      cases w
      exact ⟨a, m, 0, .nil, e, by omega⟩
  | j :: l, a, c, s, h => by
    cases h with
    | @cons _ d _ _ m s' _ e w =>
      obtain ⟨b, m', t, w', e', z⟩ := PL.unsnoc w
      exact ⟨b, m', m + t, .cons e w', e', by omega⟩
/-- where a list of positions ends -/
def lastTo (C : List (Cond P)) (l : List Nat) : Option P := (l.getLast?.bind fun i => C[i]?).map (·.2.1)
theorem PL.lastTo {C : List (Cond P)} {a b : P} {l : List Nat} {s : Int} (h : PL C a b l s) (n : l ≠ []) : lastTo C l = some b := by
  obtain ⟨l', i, rfl⟩ : ∃ l' i, l = l' ++ [i] := ⟨l.dropLast, l.getLast n, (List.dropLast_concat_getLast n).symm⟩
  obtain ⟨d, m, t, _, e, _⟩ := h.unsnoc
  unfold KN.lastTo
  rw [List.getLast?_concat, Option.bind_some, e]
  rfl
def stp (C : List (Cond P)) (l : List Nat) : List (List Nat) := ((List.range C.length).filter fun i => decide ((C[i]?).map (·.1) = lastTo C l)).map fun i => l ++ [i]
def lvl (C : List (Cond P)) : Nat → List (List Nat)
  | 0 => (List.range C.length).map fun i => [i]
  | k + 1 => (lvl C k).flatMap (stp C)
def chs (C : List (Cond P)) : Nat → List (List Nat)
  | 0 => []
  | k + 1 => chs C k ++ lvl C k
theorem mem_lvl {C : List (Cond P)} : ∀ {k : Nat} {l : List Nat}, l ∈ lvl C k ↔ l.length = k + 1 ∧ ∃ a b s, PL C a b l s
  | 0, l => by
    constructor
    · intro h
      obtain ⟨i, hi, rfl⟩ := List.mem_map.mp h
      have hi : i < C.length := List.mem_range.mp hi
      exact ⟨rfl, C[i].1, C[i].2.1, _, .cons (List.getElem?_eq_getElem hi) .nil⟩
    · rintro ⟨n, a, b, s, w⟩
      cases w with
      | nil => cases n
      | @cons _ d _ i m s' l' e w' =>
        have : l' = [] := by
          cases l' with
          | nil => rfl
          | cons => simp at n
        subst this
        exact List.mem_map.mpr ⟨i, List.mem_range.mpr (List.getElem?_eq_some_iff.mp e).1, rfl⟩
  | k + 1, l => by
    have z : l ∈ lvl C (k + 1) ↔ ∃ u ∈ lvl C k, l ∈ stp C u := List.mem_flatMap
    rw [z]
    constructor
    · rintro ⟨u, hu, hl⟩
      obtain ⟨n, a, b, s, w⟩ := mem_lvl.mp hu
      obtain ⟨i, hi, rfl⟩ := List.mem_map.mp hl
      have hi2 := of_decide_eq_true (List.mem_filter.mp hi).2
      have hi1 : i < C.length := List.mem_range.mp (List.mem_filter.mp hi).1
      rw [w.lastTo (by intro q; rw [q] at n; cases n), List.getElem?_eq_getElem hi1] at hi2
      have e1 : C[i].1 = b := Option.some.inj hi2
      refine ⟨by simp [n], a, C[i].2.1, s + C[i].2.2, w.snoc ?_⟩
      rw [List.getElem?_eq_getElem hi1, ← e1]
    · rintro ⟨n, a, c, s, w⟩
      have nn : l ≠ [] := by intro q; rw [q] at n; cases n
      obtain ⟨u, i, rfl⟩ : ∃ l' i, l = l' ++ [i] := ⟨l.dropLast, l.getLast nn, (List.dropLast_concat_getLast nn).symm⟩
      have nu : u.length = k + 1 := by simpa using n
      obtain ⟨b, m, t, w', e, _⟩ := w.unsnoc
      refine ⟨u, mem_lvl.mpr ⟨nu, a, b, t, w'⟩, List.mem_map.mpr ⟨i, List.mem_filter.mpr ⟨List.mem_range.mpr (List.getElem?_eq_some_iff.mp e).1, ?_⟩, rfl⟩⟩
      rw [w'.lastTo (by intro q; rw [q] at nu; cases nu), e]
      exact decide_eq_true rfl
theorem mem_chs {C : List (Cond P)} : ∀ {m : Nat} {l : List Nat}, l ∈ chs C m ↔ l ≠ [] ∧ l.length ≤ m ∧ ∃ a b s, PL C a b l s
  | 0, l => by
    constructor
    · intro h
      exact absurd h (List.not_mem_nil)
    · intro h
      exact absurd (List.length_eq_zero_iff.mp (Nat.le_zero.mp h.2.1)) h.1
  | m + 1, l => by
    rw [show chs C (m + 1) = chs C m ++ lvl C m from rfl, List.mem_append, mem_chs, mem_lvl]
    constructor
    · rintro (⟨n, h, w⟩ | ⟨h, w⟩)
      · exact ⟨n, by omega, w⟩
      · exact ⟨(by intro q; rw [q] at h; cases h), by omega, w⟩
    · rintro ⟨n, h, w⟩
      by_cases q : l.length = m + 1
      · exact .inr ⟨q, w⟩
      · exact .inl ⟨n, by omega, w⟩
theorem flatMap_len {α β : Type} {f : α → List β} {n : Nat} : ∀ {l : List α}, (∀ x ∈ l, (f x).length ≤ n) → (l.flatMap f).length ≤ l.length * n
  | [], _ => by simp
  | a :: l, h => by
    have h1 := h a (List.mem_cons_self ..)
    have h2 := flatMap_len (l := l) (f := f) (n := n) fun x hx => h x (List.mem_cons_of_mem _ hx)
    rw [List.flatMap_cons, List.length_append, List.length_cons, Nat.succ_mul]
    omega
theorem stp_len (C : List (Cond P)) (l : List Nat) : (stp C l).length ≤ C.length := by
  unfold stp
  rw [List.length_map]
  exact Nat.le_trans (List.length_filter_le ..) (by simp)
theorem lvl_len {C : List (Cond P)} {n : Nat} (h : C.length ≤ n) : ∀ k, (lvl C k).length ≤ n ^ (k + 1)
  | 0 => by simpa [lvl] using h
  | k + 1 => by
    have a := flatMap_len (l := lvl C k) (f := stp C) (n := n) fun x _ => Nat.le_trans (stp_len C x) h
    have b := lvl_len h k
    have c : (lvl C k).length * n ≤ n ^ (k + 1) * n := Nat.mul_le_mul_right n b
    show ((lvl C k).flatMap (stp C)).length ≤ n ^ (k + 1 + 1)
    rw [Nat.pow_succ n (k + 1)]
    omega
theorem chs_len {C : List (Cond P)} (h : C.length ≤ 7) : ∀ {k}, k ≤ 5 → (chs C k).length ≤ 7 ^ k * 2
  | 0, _ => by simp [chs]
  | k + 1, hk => by
    have a := chs_len (C := C) h (k := k) (by omega)
    have b := lvl_len h k
    show (chs C k ++ lvl C k).length ≤ _
    rw [List.length_append]
    have : 7 ^ (k + 1) = 7 ^ k * 7 := Nat.pow_succ ..
    omega
/-- the sum of a list of positions -/
def sumL (C : List (Cond P)) (l : List Nat) : Int := (l.map fun i => ((C[i]?).map (·.2.2)).getD 0).sum
theorem PL.sumL {C : List (Cond P)} {a b : P} {l : List Nat} {s : Int} (h : PL C a b l s) : sumL C l = s := by
  induction h with
  | nil => rfl
  | cons e _ ih =>
    unfold KN.sumL at ih ⊢
    rw [List.map_cons, List.sum_cons, ih, e]
    rfl
def headFrom (C : List (Cond P)) (l : List Nat) : Option P := (l.head?.bind fun i => C[i]?).map (·.1)
theorem PL.headFrom {C : List (Cond P)} {a b : P} {l : List Nat} {s : Int} (h : PL C a b l s) (n : l ≠ []) : headFrom C l = some a := by
  cases h with
  | nil => exact absurd rfl n
  | cons e _ =>
    unfold KN.headFrom
    rw [List.head?_cons, Option.bind_some, e]
    rfl
/-- the closed ones with a sum below 0 -/
def neg (C : List (Cond P)) (l : List Nat) : Bool := decide (headFrom C l = lastTo C l) && decide (sumL C l < 0)
theorem neg_iff {C : List (Cond P)} {a b : P} {l : List Nat} {s : Int} (h : PL C a b l s) (n : l ≠ []) : neg C l = true ↔ a = b ∧ s < 0 := by
  unfold neg
  rw [h.headFrom n, h.lastTo n, h.sumL, Bool.and_eq_true, decide_eq_true_iff, decide_eq_true_iff]
  exact and_congr_left fun _ => ⟨Option.some.inj, fun e => congrArg some e⟩
theorem ringL_first {C : List (Cond P)} {V : List P} (iv : In V C) {m : Nat} (hm : V.length ≤ m) : ∀ {x : Option (List Nat)}, FirstOf ((chs C m).filter (neg C)) x → RingL C x
  | none, h => fun r => by
    have h : (chs C m).filter (neg C) = [] := h
    obtain ⟨p, hp, vs, s, w, l, _, n⟩ := ring_in iv r
    obtain ⟨u, w2, n2⟩ := PL.of w
    have nu : u ≠ [] := by
      intro q
      subst q
      cases w2
      omega
    have : u ∈ (chs C m).filter (neg C) := List.mem_filter.mpr ⟨mem_chs.mpr ⟨nu, by omega, p, p, s, w2⟩, (neg_iff w2 nu).mpr ⟨rfl, l⟩⟩
    rw [h] at this
    cases this
  | some l, ⟨hl, few, least⟩ => by
    obtain ⟨hl1, hl2⟩ := List.mem_filter.mp hl
    obtain ⟨nl, ll, a, b, s, w⟩ := mem_chs.mp hl1
    obtain ⟨rfl, ns⟩ := (neg_iff w nl).mp hl2
    have inn : ∀ {a u s}, PL C a a u s → s < 0 → u.length ≤ m → u ∈ (chs C m).filter (neg C) := fun {a u s} w hs hu => by
      have nu : u ≠ [] := by
        intro q
        subst q
        cases w
        omega
      exact List.mem_filter.mpr ⟨mem_chs.mpr ⟨nu, hu, a, a, s, w⟩, (neg_iff w nu).mpr ⟨rfl, hs⟩⟩
    refine ⟨⟨a, s, w, ns⟩, fun a' u s' w' h' => ?_, fun a' u s' w' h' e => least u (inn w' h' (by omega)) e⟩
    by_cases q : u.length ≤ m
    · exact few u (inn w' h' q)
    · omega
theorem RingL.one {C : List (Cond P)} : ∀ {x y : Option (List Nat)}, RingL C x → RingL C y → x = y
  | none, none, _, _ => rfl
  | none, some l, h, k => absurd (k.ring.mp (by simp)) h
  | some l, none, h, k => absurd (h.ring.mp (by simp)) k
  | some l, some u, ⟨⟨a, s, w, n⟩, f, g⟩, ⟨⟨a', s', w', n'⟩, f', g'⟩ => by
    have e : u.length = l.length := Nat.le_antisymm (f' _ _ _ w n) (f _ _ _ w' n')
    rw [lx_eq (g' _ _ _ w n e.symm) (g _ _ _ w' n' e)]
/-- the chains from the one to the other -/
def ftw (C : List (Cond P)) (a b : P) (l : List Nat) : Bool := decide (headFrom C l = some a) && decide (lastTo C l = some b)
theorem ftw_iff {C : List (Cond P)} {a b c d : P} {l : List Nat} {s : Int} (h : PL C a b l s) (n : l ≠ []) : ftw C c d l = true ↔ a = c ∧ b = d := by
  unfold ftw
  rw [h.headFrom n, h.lastTo n, Bool.and_eq_true, decide_eq_true_iff, decide_eq_true_iff]
  exact ⟨fun ⟨x, y⟩ => ⟨Option.some.inj x, Option.some.inj y⟩, fun ⟨x, y⟩ => ⟨congrArg some x, congrArg some y⟩⟩
/-- the law's due chain -/
theorem chainL_first {C : List (Cond P)} {V : List P} (iv : In V C) (nn : ¬ Ring C) {a b : P} (ha : a ∈ V) (ne : a ≠ b) {m : Nat} (hm : V.length ≤ m) {x : Option Int} (hx : Least C a b x) :
    ∀ {y : Option (List Nat)}, FirstOf (((chs C m).filter (ftw C a b)).filter fun l => decide (some (sumL C l) = x)) y → ChainL C a b x y
  | none, h => by
    have h : ((chs C m).filter (ftw C a b)).filter (fun l => decide (some (sumL C l) = x)) = [] := h
    cases x with
    | none => exact rfl
    | some t =>
      exfalso
      obtain ⟨⟨vs, w⟩, least⟩ := hx
      obtain ⟨vs', s', w', n', l'⟩ := short iv (noNeg_iff.mpr nn) _ (Nat.le_refl _) ha w
      have et : s' = t := Int.le_antisymm l' (least _ _ w')
      subst et
      obtain ⟨u, w2, n2⟩ := PL.of w'
      have nu : u ≠ [] := by
        intro q
        subst q
        cases w2
        exact ne rfl
      have : u ∈ ((chs C m).filter (ftw C a b)).filter (fun l => decide (some (sumL C l) = some s')) :=
        List.mem_filter.mpr ⟨List.mem_filter.mpr ⟨mem_chs.mpr ⟨nu, by omega, a, b, s', w2⟩, (ftw_iff w2 nu).mpr ⟨rfl, rfl⟩⟩, by rw [w2.sumL]; exact decide_eq_true rfl⟩
      rw [h] at this
      cases this
  | some l, ⟨hl, few, least⟩ => by
    obtain ⟨hl0, hl3⟩ := List.mem_filter.mp hl
    obtain ⟨hl1, hl2⟩ := List.mem_filter.mp hl0
    obtain ⟨nl, ll, a', b', s, w⟩ := mem_chs.mp hl1
    obtain ⟨rfl, rfl⟩ := (ftw_iff w nl).mp hl2
    have hx2 := of_decide_eq_true hl3
    rw [w.sumL] at hx2
    subst hx2
    have inn : ∀ {u}, PL C a' b' u s → u.length ≤ m → u ∈ ((chs C m).filter (ftw C a' b')).filter (fun l => decide (some (sumL C l) = some s)) := fun {u} w hu => by
      have nu : u ≠ [] := by
        intro q
        subst q
        cases w
        exact ne rfl
      exact List.mem_filter.mpr ⟨List.mem_filter.mpr ⟨mem_chs.mpr ⟨nu, hu, _, _, s, w⟩, (ftw_iff w nu).mpr ⟨rfl, rfl⟩⟩, by rw [w.sumL]; exact decide_eq_true rfl⟩
    refine ⟨s, rfl, w, fun u w' => ?_, fun u w' e => least u (inn w' (by omega)) e⟩
    by_cases q : u.length ≤ m
    · exact few u (inn w' q)
    · omega
theorem ChainL.one {C : List (Cond P)} {a b : P} {x : Option Int} : ∀ {y z : Option (List Nat)}, ChainL C a b x y → ChainL C a b x z → y = z
  | none, none, _, _ => rfl
  | none, some l, h, ⟨t, e, _⟩ => by rw [show x = none from h] at e; cases e
  | some l, none, ⟨t, e, _⟩, h => by rw [show x = none from h] at e; cases e
  | some l, some u, ⟨t, e, w, f, g⟩, ⟨t', e', w', f', g'⟩ => by
    rw [e] at e'
    cases e'
    have q : u.length = l.length := Nat.le_antisymm (f' _ w) (f _ w')
    rw [lx_eq (g' _ w q.symm) (g _ w' q)]
end KN

set_option Elab.async false
set_option linter.all false
set_option maxRecDepth 100000
set_option maxHeartbeats 2000000
/-! list.extend with the heap as a letter; lists of lists of numbers, sorted -/
namespace GL
open PySem PySem.Spec PyProof.Rows L2
def rExtL : V → List V → Hp → VK → Prop := fun x vs H Q => ∃ l b xs zs, x = .ref l ∧ vs = [.ref b] ∧ H l = some (.lst xs) ∧ H b = some (.lst zs) ∧ xs.length + zs.length ≤ sizeLine ∧ PutK H l (.lst (xs ++ zs)) (Q .non)
theorem mt_extL {X : Cx} : MtM X "list.extend" rExtL := by
  intro pins s σ H x xs v us Q I rx r h
  obtain ⟨l, b, ys, zs, e1, e2, o, o2, z, q⟩ := h
  exact mt_extend pins s σ H x xs v us Q I rx r ⟨l, b, ys, zs, e1, e2, o, o2, z, q.go⟩
/-- sorted(rows), rows lists of whole numbers -/
abbrev PRow := Addr × List Int
def rSortRows (K : PySem.W.Frag) : List V → Hp → VK → Prop := fun vs H Q => ∃ (a : Addr) (L : List PRow), vs = [.ref a] ∧ SqL K H a (L.map fun p => V.ref p.1) ∧ (∀ p ∈ L, SqL K H p.1 (p.2.map V.int)) ∧
  ∀ L' : List PRow, L'.Perm L → L'.Pairwise (fun p q => p.2 ≤ q.2) → NewK H (.lst (L'.map fun p => V.ref p.1)) Q
theorem dp_ints {K : PySem.W.Frag} {H : Hp} : ∀ l : List Int, DpAll K H (l.map V.int) (l.map PyData.int)
  | [] => .nil
  | k :: r => .cons (.int _) (dp_ints r)
abbrev encR (p : PRow) : PyData := .list (p.2.map .int)
theorem depth_row (l : List Int) : (PyData.list (l.map .int)).depth = 1 := by
  show PyData.depthAll (l.map .int) + 1 = 1
  rw [PySem.W.depth_ints]
theorem each_rows {X : Cx} {pins : List (Addr × Obj)} {σ : L2.St} {H : Hp} {s : Shared} (I : L2.Inv X pins σ H s) : ∀ {L : List PRow} {us : List Value}, Vals (L.map fun p => V.ref p.1) us → (∀ p ∈ L, SqL X.K H p.1 (p.2.map V.int)) →
    PySem.W.EachIs (fun v (p : PRow) => v = Value.ref p.1) us L ∧ PySem.W.EachIs (fun v p => ∃ as, Reads s.heap v (encR p) as) us L
  | [], _, r, _ => by cases r; exact ⟨.nil, .nil⟩
  | p :: L, _, r, h => by
    cases r with
    | cons hv rt =>
      have hp := h p (List.mem_cons_self ..)
      obtain ⟨a, b⟩ := each_rows I rt fun q hq => h q (List.mem_cons_of_mem _ hq)
      obtain ⟨as, rd⟩ := Dp.reads I (encR p) (V.ref p.1) _ (.lst hp (dp_ints p.2)) hv
      cases hv
      exact ⟨.cons rfl a, .cons ⟨as, rd⟩ b⟩
theorem each_refs : ∀ {us : List Value} {L : List PRow}, PySem.W.EachIs (fun v (p : PRow) => v = Value.ref p.1) us L → Vals (L.map fun p => V.ref p.1) us
  | _, _, .nil => .nil
  | _, _, .cons h t => by
    subst h
    exact .cons rfl (each_refs t)
theorem cr_sortRows {X : Cx} (hu : X.A.units + 64 < cLine) : CallR X (.builtin "sorted") (rSortRows X.K) := by
  intro pins s σ H vs us Q I r h
  obtain ⟨a, L, rfl, hs, hr, k⟩ := h
  obtain ⟨its, rv, hl, hz⟩ := I.list hs
  rw [Vals.ref1 r]
  obtain ⟨e1, e2⟩ := each_rows I rv hr
  rw [List.length_map] at hz
  refine PySem.W.sorted_data (enc := encR) (R := fun v (p : PRow) => v = Value.ref p.1) hl.isList e1 e2 (PySem.W.AllAlike.of fun b b' => ?_) (PySem.W.Sortable.others fun b => ⟨by simp [encR], by simp [encR]⟩) hz (fun b _ => ?_) fun out ho he => ?_
  · show PySem.W.alike (.list (b.2.map .int)) (.list (b'.2.map .int)) = true
    exact PySem.W.alike_ints _ _
  · rw [show (encR b).depth = 1 from depth_row b.2]
    omega
  · obtain ⟨ep, he'⟩ := PyProof.Rows.sortedAll_at s.heap its out.toArray
    have rvo := each_refs he
    have perm : (L.mergeSort (PySem.W.dataLe false encR)).Perm L := List.mergeSort_perm _ _
    have hlen : ((L.mergeSort (PySem.W.dataLe false encR)).map fun p => V.ref p.1).length ≤ sizeLine := by
      rw [List.length_map, perm.length_eq]
      exact hz
    have le : PySem.W.dataLe false encR = fun p q : PRow => decide (p.2 ≤ q.2) := PySem.W.dataLe_rows fun p : PRow => p.2
    have sorted : (L.mergeSort (PySem.W.dataLe false encR)).Pairwise (fun p q => p.2 ≤ q.2) := by
      rw [le]
      refine (List.pairwise_mergeSort (fun a b c h1 h2 => ?_) (fun a b => ?_) L).imp fun h => of_decide_eq_true h
      · exact decide_eq_true (List.le_trans (of_decide_eq_true h1) (of_decide_eq_true h2))
      · rcases List.le_total a.2 b.2 with h | h
        · simp [h]
        · simp [h]
    refine ⟨.ref _, upd H (s.heap.objs.size + 1) (.lst _), I.laid (t' := s.toks) (fun _ _ => PyProof.Rows.sortedAll_old) (Nat.le_succ _) ⟨hlen, out, ep, rvo, he'⟩, rfl, (k _ perm sorted).go _ (I.hok.fresh (Nat.le_succ _))⟩
end GL

set_option Elab.async false
set_option linter.all false
set_option maxRecDepth 100000
set_option maxHeartbeats 4000000
namespace KM
open PySem PySem.Spec PyProof.Rows L2 GL
/-! lists of positions as data, lists of such -/
abbrev rLenQ (K : PySem.W.Frag) : List V → Hp → VK → Prop := fun xs H Q => ∃ p ys, xs = [.ref p] ∧ (SqL K H p ys ∨ SqT K H p ys) ∧ Q (.int ys.length) H
theorem if_join {c : Bool} {a b : TE} {σ : L2.St} {H : Hp} {Qv : V → Hp → Prop} (P : V → Hp → Prop) (hQ : ∀ v Hx, P v Hx → Qv v Hx) (ha : (∀ v Hx, P v Hx → Qv v Hx) → a σ H Qv) (hb : (∀ v Hx, P v Hx → Qv v Hx) → b σ H Qv) : if c = true then a σ H Qv else b σ H Qv := by
  cases c with
  | false => exact iteF (hb hQ)
  | true => exact iteT (ha hQ)
def natsD (l : List Nat) : PyData := .list (l.map fun k => PyData.int (k : Nat))
theorem dp_natsAll {K : PySem.W.Frag} {H : Hp} : ∀ l : List Nat, DpAll K H (l.map nI) (l.map fun k => PyData.int (k : Nat))
  | [] => .nil
  | k :: r => .cons (.int _) (dp_natsAll r)
theorem dp_nats {K : PySem.W.Frag} {H : Hp} {L : Addr} {l : List Nat} (e : SqL K H L (l.map nI)) : Dp K H (.ref L) (natsD l) := .lst e (dp_natsAll l)
theorem lay_nats (l : List Nat) : (natsD l).canLay0 = true := layAll_map (fun k : Nat => PyData.int (k : Nat)) l fun _ _ => rfl
theorem dep_nats (l : List Nat) : (natsD l).depth ≤ 1 := by
  show PyData.depthAll (l.map fun k => PyData.int (k : Nat)) + 1 ≤ 1
  have := depthAll_map (fun k : Nat => PyData.int (k : Nat)) 0 l fun _ _ => Nat.le_refl _
  omega
theorem shaped_nats (l : List Nat) : SeqAt.shaped (natsD l) = true := shaped_of (lay_nats l) (by have := dep_nats l; omega)
theorem sh_nats {l : List Nat} {n : Nat} (h : ∀ k ∈ l, k ≤ 1000000) (hl : l.length ≤ n) : Sh (natsD l) (33 * n + 2 * n + 3) 1 := by
  have z := sh_list (fun k : Nat => PyData.int (k : Nat)) l (n := 33) (k := 0) fun k hk => sh_int (by have := h k hk; omega)
  refine ⟨z.ok, z.nd, Nat.le_trans z.len (by omega), z.low⟩
theorem eqv_nats : ∀ l m : List Nat, PyData.eqv (natsD l) (natsD m) = decide (l = m)
  | [], [] => by simp [natsD, PyData.eqv, PyData.eqvAll]
  | [], b :: m => by simp [natsD, PyData.eqv, PyData.eqvAll]
  | a :: l, [] => by simp [natsD, PyData.eqv, PyData.eqvAll]
  | a :: l, b :: m => by
    have ih := eqv_nats l m
    have e : PyData.eqv (natsD (a :: l)) (natsD (b :: m)) = (decide (a = b) && PyData.eqv (natsD l) (natsD m)) := by
      simp [natsD, PyData.eqv, PyData.eqvAll]
      congr 1
      by_cases c : a = b
      · simp [c]
      · simp [c]
        omega
    rw [e, ih]
    by_cases c : a = b
    · simp [c]
    · simp [c]
/-- at as stand lists of positions -/
abbrev LstsAt (H : Hp) (as : List Addr) (ls : List (List Nat)) : Prop := Paired (fun a l => H a = some (.lst (l.map nI))) as ls
def lstsD (ls : List (List Nat)) : PyData := .list (ls.map natsD)
theorem dp_lstsAll {K : PySem.W.Frag} {H : Hp} : ∀ {as : List Addr} {ls : List (List Nat)}, LstsAt H as ls → DpAll K H (as.map V.ref) (ls.map natsD)
  | _, _, .nil => .nil
  | _, _, .cons h t => .cons (dp_nats (SqL.of h)) (dp_lstsAll t)
theorem dp_lsts {K : PySem.W.Frag} {H : Hp} {L : Addr} {as : List Addr} {ls : List (List Nat)} (e : SqL K H L (as.map V.ref)) (h : LstsAt H as ls) : Dp K H (.ref L) (lstsD ls) := .lst e (dp_lstsAll h)
theorem shaped_lsts (ls : List (List Nat)) : SeqAt.shaped (lstsD ls) = true :=
  shaped_of (layAll_map natsD ls fun l _ => lay_nats l) (by
    show PyData.depthAll (ls.map natsD) + 1 ≤ 64
    have := depthAll_map natsD 1 ls fun l _ => dep_nats l
    omega)
theorem eqv_lsts0 (ls : List (List Nat)) : PyData.eqv (lstsD ls) (lstsD []) = decide (ls = []) := by
  cases ls with
  | nil => simp [lstsD, PyData.eqv, PyData.eqvAll]
  | cons a r => simp [lstsD, PyData.eqv, PyData.eqvAll]
/-- as rows that are sorted -/
abbrev zI (l : List Nat) : List Int := l.map fun k => ((k : Nat) : Int)
theorem prows {K : PySem.W.Frag} {H : Hp} : ∀ {as : List Addr} {ls : List (List Nat)}, LstsAt H as ls → ∃ L : List PRow, (L.map fun p => V.ref p.1) = as.map V.ref ∧ (∀ p ∈ L, SqL K H p.1 (p.2.map V.int) ∧ ∃ l ∈ ls, p.2 = zI l ∧ H p.1 = some (.lst (l.map nI))) ∧ ∀ l ∈ ls, ∃ p ∈ L, p.2 = zI l
  | _, _, .nil => ⟨[], rfl, (fun p hp => absurd hp List.not_mem_nil), fun l hl => absurd hl List.not_mem_nil⟩
  | _, _, .cons (a := a) (b := l) h t => by
    obtain ⟨L, e, f, g⟩ := prows (K := K) t
    have ez : (zI l).map V.int = l.map nI := by rw [List.map_map]; rfl
    refine ⟨(a, zI l) :: L, by rw [List.map_cons, List.map_cons, e], fun p hp => ?_, fun m hm => ?_⟩
    · rcases List.mem_cons.mp hp with rfl | hp
      · exact ⟨by rw [ez]; exact SqL.of h, l, List.mem_cons_self .., rfl, h⟩
      · obtain ⟨x, m, hm, y, z⟩ := f p hp
        exact ⟨x, m, List.mem_cons_of_mem _ hm, y, z⟩
    · rcases List.mem_cons.mp hm with rfl | hm
      · exact ⟨_, List.mem_cons_self .., rfl⟩
      · obtain ⟨p, hp, y⟩ := g m hm
        exact ⟨p, List.mem_cons_of_mem _ hp, y⟩
theorem lx_lt : ∀ {l m : List Nat}, KN.lx l m = true → zI l < zI m
  | [], [], h => by cases h
  | [], _ :: _, _ => List.nil_lt_cons _ _
  | _ :: _, [], h => by cases h
  | a :: l, b :: m, h => by
    have h : (decide (a < b) || (decide (a = b) && KN.lx l m)) = true := h
    rw [Bool.or_eq_true, Bool.and_eq_true, decide_eq_true_iff, decide_eq_true_iff] at h
    show ((a : Int) :: zI l) < ((b : Int) :: zI m)
    rw [List.cons_lt_cons_iff]
    rcases h with h | ⟨h1, h2⟩
    · exact .inl (by omega)
    · exact .inr ⟨by omega, lx_lt h2⟩
theorem lx_of_le {l m : List Nat} (h : zI l ≤ zI m) : KN.lx m l = false := by
  cases e : KN.lx m l with
  | false => rfl
  | true => exact absurd (lx_lt e) (List.not_lt.mpr h)
end KM


set_option Elab.async false
set_option linter.all false
set_option maxRecDepth 100000
set_option maxHeartbeats 4000000
namespace KM
open PySem PySem.Spec PyProof.Rows L2 GL
/-! the law's list of all chains -/
abbrev sCs : Stmt := top 64
abbrev sSl : Stmt := top 65
abbrev sFf : Stmt := top 66
abbrev sRd : Stmt := top 67
abbrev nCs : List Str := ["_law_rows", "_law_most", "_law_found", "_law_longer", "_law_turn", "_law_rest", "_law_some", "_law_end", "_law_at", "_law_row"]
abbrev nSl : List Str := ["_law_rows", "_law_some", "_law_at"]
abbrev nFf : List Str := ["_law_some", "_law_least", "_law_one"]
abbrev nRd : List Str := ["_law_rows", "_law_chains_here", "_law_some", "_law_closed"]
theorem scCs : FnScope nCs ["_law_rows", "_law_most"] (defScope sCs) := ⟨rfl, rfl, rfl, by decide +kernel, rfl, by decide +kernel, by decide +kernel⟩
theorem scSl : FnScope nSl ["_law_rows", "_law_some"] (defScope sSl) := ⟨rfl, rfl, rfl, by decide +kernel, rfl, by decide +kernel, by decide +kernel⟩
theorem scFf : FnScope nFf ["_law_some"] (defScope sFf) := ⟨rfl, rfl, rfl, by decide +kernel, rfl, by decide +kernel, by decide +kernel⟩
theorem scRd : FnScope nRd ["_law_rows", "_law_chains_here"] (defScope sRd) := ⟨rfl, rfl, rfl, by decide +kernel, rfl, by decide +kernel, by decide +kernel⟩
theorem lsts_same {H H' : Hp} {as : List Addr} {ls : List (List Nat)} (h : LstsAt H as ls) (s : Same H H') : LstsAt H' as ls := Paired.mapP h fun a l e => s _ _ e
theorem lsts_put {H H' : Hp} {p : Addr} {zs : List Addr} {as : List Addr} {ls : List (List Nat)} (h : LstsAt H as ls) (nn : ∀ l ∈ ls, l ≠ []) (e : H p = some (.lst (zs.map V.ref))) (b : But p H H') : LstsAt H' as ls := by
  induction h with
  | nil => exact .nil
  | @cons a l as ls ha _ ih =>
    refine .cons (b _ _ (fun z => ?_) ha) (ih fun l hl => nn l (List.mem_cons_of_mem _ hl))
    subst z
    rw [ha] at e
    injection e with e
    injection e with e
    cases l with
    | nil => exact nn [] (List.mem_cons_self ..) rfl
    | cons k r =>
      cases zs with
      | nil => cases e
      | cons z t =>
        injection e with e _
        cases e
theorem int_ref {l : List Nat} {ws : List Addr} (n : l ≠ []) (e : l.map nI = ws.map V.ref) : False := by
  cases l with
  | nil => exact n rfl
  | cons k r =>
    cases ws with
    | nil => cases e
    | cons z t =>
      injection e with e _
      cases e
theorem lsts_app {H : Hp} : ∀ {as bs : List Addr} {ls ms : List (List Nat)}, LstsAt H as ls → LstsAt H bs ms → LstsAt H (as ++ bs) (ls ++ ms)
  | _, _, _, _, .nil, h => h
  | _, _, _, _, .cons a t, h => .cons a (lsts_app t h)
theorem lsts_at {H : Hp} : ∀ {as : List Addr} {ls : List (List Nat)} {i : Nat} {x : V}, LstsAt H as ls → (as.map V.ref)[i]? = some x → ∃ a l, x = .ref a ∧ as[i]? = some a ∧ ls[i]? = some l ∧ H a = some (.lst (l.map nI))
  | _, _, i, x, .nil, e => by simp at e
  | _, _, 0, x, .cons (a := a) (b := b) h _, e => by
    have e' : V.ref a = x := by simpa using e
    exact ⟨a, b, e'.symm, rfl, rfl, h⟩
  | _, _, i + 1, x, .cons _ t, e => by
    obtain ⟨a, l, e1, e2, e3, e4⟩ := lsts_at (i := i) (x := x) t (by simpa using e)
    exact ⟨a, l, e1, by simpa using e2, by simpa using e3, e4⟩
theorem lvl_nn {rs : List Row} {k : Nat} : ∀ l ∈ KN.lvl rs k, l ≠ [] := fun l h z => by
  have := (KN.mem_lvl.mp h).1
  rw [z] at this
  cases this
theorem chs_nn {rs : List Row} {k : Nat} : ∀ l ∈ KN.chs rs k, l ≠ [] := fun l h => (KN.mem_chs.mp h).1
theorem atI_last {l : List V} {v : V} : atI (l ++ [v]) (-1) = some v := by
  unfold atI ixN
  rw [if_neg (by omega), if_pos (by simp; omega)]
  have e : (-1 + ((l ++ [v]).length : Int)).toNat = l.length := by rw [List.length_append]; simp; omega
  rw [e]
  simp
theorem atI_nat {xs : List V} {i : Nat} {v : V} (h : xs[i]? = some v) : atI xs ((i : Nat) : Int) = some v := by
  obtain ⟨hk, e⟩ := List.getElem?_eq_some_iff.mp h
  unfold atI ixN
  rw [if_pos (by omega), if_pos (by omega)]
  simpa using h
/-- the condition at a position, as it stands -/
theorem row_at {H : Hp} : ∀ {as : List Addr} {rs : List Row} {i : Nat} {r : Row}, RowsIn H as rs → rs[i]? = some r → ∃ t, (as.map V.ref)[i]? = some (.ref t) ∧ RowAt H t r
  | _, _, i, r, .nil, e => by simp at e
  | _, _, 0, r, .cons (a := a) (b := b) h _, e => by
    have e' : b = r := by simpa using e
    subst e'
    exact ⟨a, by simp, h⟩
  | _, _, i + 1, r, .cons _ t, e => by
    obtain ⟨a, e1, e2⟩ := row_at (i := i) (r := r) t (by simpa using e)
    exact ⟨a, by simpa using e1, e2⟩
theorem lvl_end {rs : List Row} {k : Nat} {l : List Nat} (h : l ∈ KN.lvl rs k) : ∃ l' i r, l = l' ++ [i] ∧ rs[i]? = some r ∧ KN.lastTo rs l = some r.2.1 := by
  obtain ⟨n, a, b, s, w⟩ := KN.mem_lvl.mp h
  have nn : l ≠ [] := by intro q; rw [q] at n; cases n
  obtain ⟨u, i, rfl⟩ : ∃ l' i, l = l' ++ [i] := ⟨l.dropLast, l.getLast nn, (List.dropLast_concat_getLast nn).symm⟩
  obtain ⟨d, m, t, w', e, _⟩ := w.unsnoc
  exact ⟨u, i, _, rfl, e, w.lastTo nn⟩
def spCs : Sp := fun vs H Q _ => ∃ (R : Addr) (gs : List Str) (rs : List Row) (as : List Addr) (m : Nat), vs = [.ref R, .int (m : Int)] ∧ H R = some (.lst (as.map V.ref)) ∧ RowsIn H as rs ∧ rs.length ≤ 7 ∧ GoodGs gs ∧ GoodRows gs rs ∧ m ≤ 5 ∧
  ∀ L ls H', H L = none → H' L = some (.lst (ls.map V.ref)) → LstsAt H' ls (KN.chs rs m) → (∀ a ∈ ls, H a = none) → Same H H' → Q (.ref L) H'
section
variable {P : Program} {w : World} {K : PySem.W.Frag} {mg : Str → Option Value} {base : Heap}
theorem ok_chains {f : Addr} {fd : FuncData} (F : Fun K "_law_chains" "_law_chains" sCs f fd) (T : Bi mg) : FnG P w K mg base CX0 1 f fd ["_law_rows", "_law_most"] spCs := by
  refine okG F scCs (fun vs H Q E h => ?_) (fun cdv A out s H vs Q E g hr h => ?_)
  · obtain ⟨R, gs, rs, as, m, rfl, _⟩ := h
    rfl
  · obtain ⟨R, gs, rs, as, m, rfl, eR, rows, lr, gg, good, hm, q⟩ := h
    have hu := hr.units
    have szl := sizeLine_eq
    have la : (as.map V.ref).length = rs.length := by rw [List.length_map]; exact Paired.length rows
    refine ⟨_, (pss_cons (ps_par (i := 2) (j := 3) (by rfl) scCs.nd rfl rfl (by decide) rfl rfl (pa_cons (pe_lstL pa_nil) (pa_cons (pe_lc (own := [("_law_at", 8)]) (g := gName 8) (tt := tYes) (te := tLstL (tCons (tVar 8) tNil)) (by rfl) scCs.nd (pi_range1 (by rfl) T.range (pa_cons (pe_callB call_len_seq (by rfl) T.len PySem.boot_len (pa_cons (pv 0) pa_nil)) pa_nil)) (blkOk_by (own := [("_law_at", 8)]) (N := nCs) (sc := defScope sCs) (by decide +kernel)) (fun _ _ _ _ _ => by exact (pg_name (i := 8) scCs.nd rfl (.inl rfl))) (fun _ _ _ _ _ => pts_nil) (fun _ _ _ _ _ => by exact (pe_lstL (pa_cons (pv 8) pa_nil)))) pa_nil)) (by rfl))
      (pss_cons (ps_for PassesOwn.never rfl (pi_range1 (by rfl) T.range (pa_cons (pv 1) pa_nil)) (pg_name (i := 4) scCs.nd rfl (.inl rfl))
      (pss_cons (ps_expr (pe_bm PySem.F.plainAttrs_list PySem.F.slot_list_extend PySem.F.type_list_extend mt_extL (pv 2) (pa_cons (pv 3) pa_nil)))
      (pss_cons (ps_set (i := 5) scCs.nd rfl (.inl rfl) (pe_lstL pa_nil))
      (pss_cons (ps_for PassesOwn.never rfl (pi_list (pe_callTy call_listL (by rfl) T.list (by decide +kernel) (pa_cons (pv 3) pa_nil))) (pg_name (i := 6) scCs.nd rfl (.inr rfl))
      (pss_cons (ps_set (i := 7) scCs.nd rfl (.inr rfl) (pe_ix ix_tup (pe_ix ix_list (pv 0) (pe_ix ix_list (pv 6) (pe_un un_neg pe_int) (fun _ _ => rfl)) (fun _ _ => rfl)) pe_int (fun _ _ => rfl)))
      (pss_one (ps_expr (pe_bm PySem.F.plainAttrs_list PySem.F.slot_list_extend PySem.F.type_list_extend mt_extL (pv 5) (pa_cons (pe_lc (own := [("_law_at", 8), ("_law_row", 9)]) (g := gTup K 2 (gCons (gName 8) (gCons (gName 9) gNil))) (tt := tB (tOp (rEqD K) (tOp (rIxT K) (tVar 9) (tC (.int 0))) (tVar 7))) (te := tOp rCatL (tVar 6) (tLstL (tCons (tVar 8) tNil))) (by rfl) scCs.nd (pi_enum (by rfl) T.enumerate (pa_cons (pv 0) pa_nil)) (blkOk_by (own := [("_law_at", 8), ("_law_row", 9)]) (N := nCs) (sc := defScope sCs) (by decide +kernel)) (fun _ _ _ _ _ => by exact (pg_tup rfl (pgs_cons (pg_name (i := 8) scCs.nd rfl (.inl rfl)) (pgs_cons (pg_name (i := 9) scCs.nd rfl (.inl rfl)) pgs_nil)))) (fun _ _ _ _ _ => by exact (pts_one (pt_cmpR (op_eqD hu) (pe_ix ix_tup (pv 9) pe_int (fun _ _ => rfl)) (pv 7) (nomark _)))) (fun _ _ _ _ _ => by exact (pe_op op_catL (pv 6) (pe_lstL (pa_cons (pv 8) pa_nil))))) pa_nil))))))
      (pss_one (ps_set (i := 3) scCs.nd rfl (.inl rfl) (pv 5)))))))
      (pss_one (ps_ret (pv 2))))), ?_⟩
    refine ⟨by show 0 ≤ sizeLine; omega, fun L0 H1 n1 e1 s1 => ?_⟩
    refine ⟨_, rfl, R, _, rfl, .inl (SqL.of (s1 _ _ eR)), _, rfl, by omega, by omega, fun U nU => ?_⟩
    rw [la]
    refine lc_it (walk_range (lo := 0) (n := ((rs.length : Nat) : Int).toNat)) (fun i H' => Same H1 H' ∧ ∃ ls : List Addr, H' U = some (.lst (ls.map V.ref)) ∧ LstsAt H' ls ((List.range i).map fun k => [k]) ∧ ∀ a ∈ ls, H a = none) ⟨same_new (Same.refl' _) nU, [], upd_same, .nil, fun a ha => absurd ha List.not_mem_nil⟩ (fun _ _ _ _ => True.intro) ?_ ?_
    · rintro i x H2 H3 hi ⟨s2, ls, e2, l2, nw2⟩ ⟨rfl, rfl⟩
      have hi : i < rs.length := by omega
      have e0 : (0 : Int) + (i : Nat) = (i : Nat) := by omega
      have ll := Paired.length l2
      rw [List.length_map, List.length_range] at ll
      refine ⟨rfl, yes_go ?_⟩
      refine ⟨_, rfl, by show 1 ≤ sizeLine; omega, fun V1 H4 n4 e4 s4 => ?_⟩
      refine ⟨_, s4 _ _ e2, by rw [List.length_map]; omega, same_but (s2.trans s4) But.refl.upd nU, ls ++ [V1], by rw [upd_same, List.map_append]; rfl, ?_, fun a ha => (List.mem_append.mp ha).elim (nw2 a) fun z => by rw [List.mem_singleton.mp z]; exact (s1.trans s2).free n4⟩
      rw [List.range_succ, List.map_append]
      have k : LstsAt (upd H4 U (.lst (ls.map V.ref ++ [.ref V1]))) ls ((List.range i).map fun k => [k]) := lsts_put (lsts_same l2 s4) (fun l hl => by obtain ⟨_, _, rfl⟩ := List.mem_map.mp hl; simp) (s4 _ _ e2) But.refl.upd
      refine lsts_app k (.cons ?_ .nil)
      rw [upd_ne (ne_some n4 e2), e4]
      dsimp only
      rw [e0]
      rfl
    rintro H2 ⟨s2, us, e2, l2, nw2⟩
    have l2 : LstsAt H2 us (KN.lvl rs 0) := l2
    have nU0 : H U = none := s1.free nU
    have nUL : U ≠ L0 := fun z => by rw [z, e1] at nU; cases nU
    refine ⟨_, _, rfl, ?_⟩
    refine ⟨_, rfl, _, rfl, by omega, by omega, ?_⟩
    refine for_range (n := ((m : Nat) : Int).toNat) (fun i σ' H' => ∃ (ul : Addr) (x4 x5 x6 x7 x8 x9 : Option V) (fs us : List Addr), σ' = [some (.ref R), some (.int (m : Int)), some (.ref L0), some (.ref ul), x4, x5, x6, x7, x8, x9] ∧ Same H H' ∧ H' L0 = some (.lst (fs.map V.ref)) ∧ LstsAt H' fs (KN.chs rs i) ∧ H' ul = some (.lst (us.map V.ref)) ∧ LstsAt H' us (KN.lvl rs i) ∧ ul ≠ L0 ∧ (∀ a ∈ fs, H a = none) ∧ ∀ a ∈ us, H a = none) ?_ ?_ ?_
    · exact ⟨U, _, _, _, _, _, _, [], us, rfl, s1.trans s2, s2 _ _ e1, .nil, e2, l2, nUL, (fun a ha => absurd ha List.not_mem_nil), nw2⟩
    · rintro i σ' H3 hi ⟨ul, x4, x5, x6, x7, x8, x9, fs, us, rfl, s3, eL, lL, eU, lU, nul, nwf, nwu⟩
      have hi : i < m := by omega
      have cl := KN.chs_len (C := rs) lr (k := i) (by omega)
      have vl := KN.lvl_len (C := rs) lr i
      have p5 : 7 ^ i ≤ 7 ^ 4 := Nat.pow_le_pow_right (by decide) (by omega)
      have p6 : 7 ^ (i + 1) ≤ 7 ^ 5 := Nat.pow_le_pow_right (by decide) (by omega)
      have p5 : 7 ^ i ≤ 2401 := p5
      have p6 : 7 ^ (i + 1) ≤ 16807 := p6
      have lf := Paired.length lL
      have lu := Paired.length lU
      refine ⟨_, rfl, .inl ⟨rfl, _, SqL.of eL⟩, _, rfl, L0, ul, _, _, rfl, rfl, eL, eU, by rw [List.length_map, List.length_map]; omega, fun H4 e4 b4 => ?_⟩
      have s4 : Same H H4 := same_but s3 b4 n1
      have lL4 := lsts_put lL chs_nn eL b4
      have lU4 := lsts_put lU lvl_nn eL b4
      have eU4 := b4 _ _ nul eU
      rw [← List.map_append] at e4
      refine ⟨by show 0 ≤ sizeLine; omega, fun W H5 n5 e5 s5 => ?_⟩
      refine ⟨_, rfl, ul, _, rfl, .inl (SqL.of (s5 _ _ eU4)), fun Cc H6 n6 e6 s6 => ?_⟩
      refine ⟨Cc, rfl, ⟨_, SqL.of e6⟩, ?_⟩
      have nCW : Cc ≠ W := ne_some n6 e5
      refine for_list (K := K) (a := Cc) (xs := us.map V.ref) (fun j σ' H' => ∃ (x6 x7 x8 x9 : Option V) (ws : List Addr), σ' = [some (.ref R), some (.int (m : Int)), some (.ref L0), some (.ref ul), some (.int (0 + (i : Nat))), some (.ref W), x6, x7, x8, x9] ∧ Same H4 H' ∧ H' Cc = some (.lst (us.map V.ref)) ∧ H' W = some (.lst (ws.map V.ref)) ∧ LstsAt H' ws (((KN.lvl rs i).take j).flatMap (KN.stp rs)) ∧ ∀ a ∈ ws, H a = none) ?_ ?_ ?_ ?_
      · exact ⟨x6, x7, x8, x9, [], rfl, s5.trans s6, e6, s6 _ _ e5, .nil, fun a ha => absurd ha List.not_mem_nil⟩
      · rintro j σ' H7 _ ⟨_, _, _, _, _, rfl, _, z, _⟩
        exact SqL.of z
      · rintro j x σ' H7 hj ⟨x6, x7, x8, x9, ws, rfl, s7, eC, eW, lW, nww⟩
        obtain ⟨a, l, rfl, ea, el, eal⟩ := lsts_at (lsts_same lU4 s7) hj
        have ml := List.mem_of_getElem? el
        obtain ⟨l', ix, r, rfl, er, eend⟩ := lvl_end ml
        have gr := good r (List.mem_of_getElem? er)
        have rows7 := rows_same rows (s4.trans s7)
        obtain ⟨tr, et, rt⟩ := row_at rows7 er
        have lw := Paired.length lW
        have jl := (List.getElem?_eq_some_iff.mp el).1
        have wl : ws.length ≤ 16807 * 7 := by
          rw [lw]
          refine Nat.le_trans (KN.flatMap_len (n := 7) fun x _ => Nat.le_trans (KN.stp_len rs x) lr) ?_
          rw [List.length_take]
          omega
        refine ⟨_, rfl, _, rfl, _, rfl, a, _, -1, nI ix, rfl, rfl, SqL.of eal, by rw [List.map_append]; exact atI_last, ?_⟩
        refine ⟨R, _, (ix : Int), .ref tr, rfl, rfl, SqL.of ((s4.trans s7) _ _ eR), atI_nat et, ?_⟩
        refine ⟨tr, _, 1, oV r.2.1, rfl, rfl, SqT.of rt, rfl, ?_⟩
        refine ⟨_, rfl, .inl ⟨rfl, _, SqL.of eW⟩, ?_⟩
        refine ⟨_, rfl, R, _, rfl, SqL.of ((s4.trans s7) _ _ eR), fun Vv nV => ?_⟩
        refine lc_it (walk_enum (K := K) (a := R) (xs := as.map V.ref)) (fun k H' => Same H7 H' ∧ ∃ vs : List Addr, H' Vv = some (.lst (vs.map V.ref)) ∧ LstsAt H' vs (((List.range k).filter fun z => decide ((rs[z]?).map (·.1) = KN.lastTo rs (l' ++ [ix]))).map fun z => (l' ++ [ix]) ++ [z]) ∧ vs.length ≤ k ∧ ∀ a ∈ vs, H a = none) ⟨same_new (Same.refl' _) nV, [], upd_same, .nil, Nat.le_refl _, fun a ha => absurd ha List.not_mem_nil⟩ (fun k H' _ ⟨z, _⟩ => SqL.of (z _ _ ((s4.trans s7) _ _ eR))) ?_ ?_
        · rintro k y J1 J2 hk ⟨s8, vs, eV, lV, vl7, nwv⟩ ⟨Tp, a', b', rfl, nT, rfl, ea', eb'⟩
          cases ea'
          obtain ⟨tr', r', rfl, er', et'⟩ := rows_at (rows_same rows7 s8) eb'
          have gr' := good r' (List.mem_of_getElem? er')
          rw [la] at hk
          have hT : Same J1 (upd J1 Tp (.tup [.int (k : Nat), .ref tr'])) := same_new (Same.refl' _) nT
          have eT : (upd J1 Tp (.tup [.int (k : Nat), .ref tr'])) Tp = some (.tup [.int (k : Nat), .ref tr']) := upd_same
          have et3 := hT _ _ et'
          have s9 := s8.trans hT
          have eV3 := hT _ _ eV
          have lV3 := lsts_same lV hT
          generalize upd J1 Tp (.tup [.int (k : Nat), .ref tr']) = J2 at hT eT et3 s9 eV3 lV3
          rw [eend] at lV3
          refine ⟨Tp, _, rfl, SqT.of eT, rfl, _, _, rfl, _, _, rfl, rfl, rfl, ?_⟩
          refine ⟨_, rfl, tr', _, 0, oV r'.1, rfl, rfl, SqT.of et3, rfl, _, rfl, oD r'.1, oD r.2.1, dp_o _, dp_o _, shaped_o gg _ gr'.one, shaped_o gg _ gr.two, _, rfl, ?_⟩
          rw [eqv_o, range_filter_snoc, er', eend, Option.map_some]
          have dd : decide (some r'.1 = some r.2.1) = decide (r'.1 = r.2.1) := decide_eq_decide.mpr ⟨Option.some.inj, fun z => congrArg some z⟩
          rw [dd]
          by_cases c : r'.1 = r.2.1
          · rw [decide_eq_true c]
            refine iteT ?_
            refine ⟨_, rfl, _, rfl, by show 1 ≤ sizeLine; omega, fun B1 J3 nB1 eB1 sB1 => ?_⟩
            have eal3 := sB1 _ _ (s9 _ _ eal)
            have le : (l' ++ [ix]).length = i + 1 := (KN.mem_lvl.mp ml).1
            refine ⟨a, B1, _, _, rfl, rfl, eal3, eB1, by rw [List.length_map]; show _ + 1 ≤ sizeLine; omega, fun B2 J4 nB2 eB2 sB2 => ?_⟩
            have s34 := sB1.trans sB2
            refine ⟨_, s34 _ _ eV3, by rw [List.length_map]; omega, same_but (s9.trans s34) But.refl.upd nV, vs ++ [B2], by rw [upd_same, List.map_append]; rfl, ?_, by simp; omega, fun a ha => (List.mem_append.mp ha).elim (nwv a) fun z => by rw [List.mem_singleton.mp z]; exact (((s4.trans s7).trans s9).trans sB1).free nB2⟩
            rw [if_pos rfl, List.map_append]
            refine lsts_app (lsts_put (lsts_same lV3 s34) (fun z hz => by obtain ⟨_, _, rfl⟩ := List.mem_map.mp hz; simp) (s34 _ _ eV3) But.refl.upd) (.cons ?_ .nil)
            rw [upd_ne (ne_some nB2 (sB1 _ _ eV3)), eB2]
            dsimp only
            rw [List.map_append (l₁ := l' ++ [ix]) (l₂ := [k])]
            rfl
          · rw [decide_eq_false c]
            refine iteF ⟨s9, vs, eV3, ?_, by omega, nwv⟩
            rw [if_neg (by simp), List.append_nil]
            exact lV3
        · rintro J1 ⟨s8, vs, eV, lV, vl7, nwv⟩
          rw [la] at lV vl7
          have nVW : Vv ≠ W := ne_some nV eW
          refine ⟨W, Vv, _, _, rfl, rfl, s8 _ _ eW, eV, by rw [List.length_map, List.length_map]; omega, fun J2 eW2 b2 => ?_⟩
          have S8 := s7.trans s8
          have eW1 := s8 _ _ eW
          refine ⟨_, _, _, _, ws ++ vs, rfl, same_but S8 b2 n5, b2 _ _ nCW (s8 _ _ eC), by rw [eW2, List.map_append], ?_, fun a ha => (List.mem_append.mp ha).elim (nww a) (nwv a)⟩
          rw [take_more el, List.flatMap_append, List.flatMap_singleton]
          refine lsts_app (lsts_put (lsts_same lW s8) (fun z hz => ?_) eW1 b2) (lsts_put lV (fun z hz => by obtain ⟨_, _, rfl⟩ := List.mem_map.mp hz; simp) eW1 b2)
          obtain ⟨_, _, hz⟩ := List.mem_flatMap.mp hz
          obtain ⟨_, _, rfl⟩ := List.mem_map.mp hz
          simp
      · rintro σ' H7 ⟨x6, x7, x8, x9, ws, rfl, s7, eC, eW, lW, nww⟩
        rw [List.length_map, lu, List.take_length] at lW
        refine ⟨_, rfl, W, _, _, _, _, _, _, fs ++ us, ws, rfl, s4.trans s7, s7 _ _ e4, ?_, eW, lW, ?_, (fun a ha => (List.mem_append.mp ha).elim (nwf a) (nwu a)), nww⟩
        · exact lsts_app (lsts_same lL4 s7) (lsts_same lU4 s7)
        · exact ne_some n5 e4
    · rintro σ' H3 ⟨ul, x4, x5, x6, x7, x8, x9, fs, us, rfl, s3, eL, lL, eU, lU, nul, nwf, nwu⟩
      exact ⟨_, rfl, q L0 fs H3 n1 eL lL nwf s3⟩
end
end KM

set_option Elab.async false
set_option linter.all false
set_option maxRecDepth 100000
set_option maxHeartbeats 4000000
namespace KM
open PySem PySem.Spec PyProof.Rows L2 GL
/-! sums of chains, the first of some lists, the ring that is due -/
def spSl (K : PySem.W.Frag) : Sp := fun vs H Q _ => ∃ (R a : Addr) (rs : List Row) (as : List Addr) (l : List Nat), vs = [.ref R, .ref a] ∧ H R = some (.lst (as.map V.ref)) ∧ RowsIn H as rs ∧ SqL K H a (l.map nI) ∧ (∀ k ∈ l, k < rs.length) ∧ l.length ≤ 1000 ∧
  ∀ H', Same H H' → Q (.int (KN.sumL rs l)) H'
def spFf : Sp := fun vs H Q _ => ∃ (L : Addr) (ls : List (List Nat)) (as : List Addr), vs = [.ref L] ∧ H L = some (.lst (as.map V.ref)) ∧ LstsAt H as ls ∧ ls.length ≤ 100000 ∧ (∀ l ∈ ls, l.length ≤ 1000) ∧ (∀ l ∈ ls, l ≠ []) ∧
  (KN.FirstOf ls none → ∀ H', Same H H' → Q .non H') ∧ ∀ l a H', KN.FirstOf ls (some l) → H' a = some (.lst (l.map nI)) → Same H H' → Q (.ref a) H'
def spRd : Sp := fun vs H Q _ => ∃ (R L : Addr) (gs : List Str) (rs : List Row) (as ls : List Addr) (m : Nat), vs = [.ref R, .ref L] ∧ H R = some (.lst (as.map V.ref)) ∧ RowsIn H as rs ∧ GoodGs gs ∧ GoodRows gs rs ∧ rs.length ≤ 7 ∧ m ≤ 5 ∧ (pts gs).length ≤ m ∧
  H L = some (.lst (ls.map V.ref)) ∧ LstsAt H ls (KN.chs rs m) ∧ (KN.RingL rs none → ∀ H', Same H H' → Q .non H') ∧ ∀ l a H', KN.RingL rs (some l) → l.length ≤ m → H' a = some (.lst (l.map nI)) → Same H H' → Q (.ref a) H'
section
variable {P : Program} {w : World} {K : PySem.W.Frag} {mg : Str → Option Value} {base : Heap}
theorem ok_suml {f : Addr} {fd : FuncData} (F : Fun K "_law_sum" "_law_sum" sSl f fd) (T : Bi mg) : FnG P w K mg base CX0 1 f fd ["_law_rows", "_law_some"] (spSl K) := by
  refine okG F scSl (fun vs H Q E h => ?_) (fun cdv A out s H vs Q E g hr h => ?_)
  · obtain ⟨R, a, rs, as, l, rfl, _⟩ := h
    rfl
  · obtain ⟨R, a, rs, as, l, rfl, eR, rows, ea, lt, ll, q⟩ := h
    have szl := sizeLine_eq
    refine ⟨_, (pss_one (ps_ret (pe_callB (cr_sum (by rfl)) (by rfl) T.sum (by decide +kernel) (pa_cons (pe_lc (own := [("_law_at", 2)]) (g := gName 2) (tt := tYes) (te := tOp (rIxT K) (tOp (rIxL K) (tVar 0) (tVar 2)) (tC (.int 2))) (by rfl) scSl.nd (pi_list (pv 1)) (blkOk_by (own := [("_law_at", 2)]) (N := nSl) (sc := defScope sSl) (by decide +kernel)) (fun _ _ _ _ _ => by exact (pg_name (i := 2) scSl.nd rfl (.inl rfl))) (fun _ _ _ _ _ => pts_nil) (fun _ _ _ _ _ => by exact (pe_ix ix_tup (pe_ix ix_list (pv 0) (pv 2) (fun _ _ => rfl)) pe_int (fun _ _ => rfl)))) pa_nil)))), ?_⟩
    refine ⟨_, rfl, a, rfl, ⟨_, ea⟩, fun U nU => ?_⟩
    refine lc_it (walk_list (K := K) (a := a) (xs := l.map nI)) (fun i H' => Same H H' ∧ H' U = some (.lst (((l.take i).map fun i => ((rs[i]?).map (·.2.2)).getD 0).map V.int))) ⟨same_new (Same.refl' _) nU, upd_same⟩ (fun i H' _ ⟨z, _⟩ => ?_) ?_ ?_
    · rcases ea with ea | ea
      · rcases ea with ea | ⟨o, ea⟩
        · exact .inl (.inl (z _ _ ea))
        · exact .inl (.inr ⟨o, z _ _ ea⟩)
      · exact .inr ea
    · rintro i x H2 H3 hi ⟨s2, e2⟩ ⟨rfl, hx⟩
      obtain ⟨k, hk, rfl⟩ := get_map hx
      have kl := lt k (List.mem_of_getElem? hk)
      have er : rs[k]? = some rs[k] := List.getElem?_eq_getElem kl
      obtain ⟨t, et, rt⟩ := row_at (rows_same rows s2) er
      rw [List.length_map] at hi
      refine ⟨rfl, yes_go ?_⟩
      refine ⟨_, rfl, _, rfl, R, _, (k : Int), .ref t, rfl, rfl, SqL.of (s2 _ _ eR), atI_nat et, ?_⟩
      refine ⟨t, _, 2, .int rs[k].2.2, rfl, rfl, SqT.of rt, rfl, ?_⟩
      refine ⟨_, e2, by rw [List.length_map, List.length_map, List.length_take]; omega, same_but s2 But.refl.upd nU, ?_⟩
      rw [upd_same, take_more hk, List.map_append, List.map_append, List.map_singleton, er]
      rfl
    · rintro H2 ⟨s2, e2⟩
      rw [List.length_map, List.take_length] at e2
      exact ⟨U, _, rfl, SqL.of e2, q H2 s2⟩
theorem ok_first {f : Addr} {fd : FuncData} (F : Fun K "_law_first" "_law_first" sFf f fd) (T : Bi mg) : FnG P w K mg base CX0 1 f fd ["_law_some"] spFf := by
  refine okG F scFf (fun vs H Q E h => ?_) (fun cdv A out s H vs Q E g hr h => ?_)
  · obtain ⟨L, ls, as, rfl, _⟩ := h
    rfl
  · obtain ⟨L, ls, as, rfl, eL, lL, ln, l1000, nn, qn, qs⟩ := h
    have szl := sizeLine_eq
    have hu := hr.units
    have la := Paired.length lL
    refine ⟨_, (pss_cons (ps_if (pt_cmpR (op_eqD hu) (pv 0) (pe_lstL pa_nil) (nomark _)) (pss_one (ps_ret pe_non)) pss_nil)
      (pss_cons (ps_set (i := 1) scFf.nd rfl (.inr rfl) (pe_callB (cr_min (by rfl)) (by rfl) T.min (by decide +kernel) (pa_cons (pe_lc (own := [("_law_one", 2)]) (g := gName 2) (tt := tYes) (te := tCB (rLenQ K) (tCons (tVar 2) tNil)) (by rfl) scFf.nd (pi_list (pv 0)) (blkOk_by (own := [("_law_one", 2)]) (N := nFf) (sc := defScope sFf) (by decide +kernel)) (fun _ _ _ _ _ => by exact (pg_name (i := 2) scFf.nd rfl (.inl rfl))) (fun _ _ _ _ _ => pts_nil) (fun _ _ _ _ _ => by exact (pe_callB call_len_seq (by rfl) T.len PySem.boot_len (pa_cons (pv 2) pa_nil)))) pa_nil)))
      (pss_one (ps_ret (pe_ix ix_list (pe_callB (cr_sortRows hu) (by rfl) T.sorted (by decide +kernel) (pa_cons (pe_lc (own := [("_law_one", 2)]) (g := gName 2) (tt := tB (tOp rEq (tCB (rLenQ K) (tCons (tVar 2) tNil)) (tVar 1))) (te := tVar 2) (by rfl) scFf.nd (pi_list (pv 0)) (blkOk_by (own := [("_law_one", 2)]) (N := nFf) (sc := defScope sFf) (by decide +kernel)) (fun _ _ _ _ _ => by exact (pg_name (i := 2) scFf.nd rfl (.inl rfl))) (fun _ _ _ _ _ => by exact (pts_one (pt_cmpR op_eq (pe_callB call_len_seq (by rfl) T.len PySem.boot_len (pa_cons (pv 2) pa_nil)) (pv 1) (nomark _)))) (fun _ _ _ _ _ => by exact (pv 2))) pa_nil)) pe_int (fun _ _ => rfl)))))), ?_⟩
    refine ⟨_, rfl, by show 0 ≤ sizeLine; omega, fun Z H1 nZ eZ s1 => ?_⟩
    have eL1 := s1 _ _ eL
    have lL1 := lsts_same lL s1
    refine ⟨lstsD ls, lstsD [], dp_lsts (SqL.of eL1) lL1, dp_lsts (as := []) (SqL.of eZ) .nil, shaped_lsts _, shaped_lsts _, _, rfl, ?_⟩
    rw [eqv_lsts0]
    by_cases c : ls = []
    · rw [decide_eq_true c]
      exact iteT (qn c H1 s1)
    · rw [decide_eq_false c]
      refine iteF ?_
      refine ⟨_, rfl, L, rfl, ⟨_, SqL.of eL1⟩, fun U nU => ?_⟩
      have lm : (as.map V.ref).length = ls.length := by rw [List.length_map, la]
      refine lc_it (walk_list (K := K) (a := L) (xs := as.map V.ref)) (fun i H' => Same H1 H' ∧ H' U = some (.lst (((ls.take i).map fun l => ((l.length : Nat) : Int)).map V.int))) ⟨same_new (Same.refl' _) nU, upd_same⟩ (fun i H' _ ⟨z, _⟩ => SqL.of (z _ _ eL1)) ?_ ?_
      · rintro i x H2 H3 hi ⟨s2, e2⟩ ⟨rfl, hx⟩
        obtain ⟨a, l, rfl, ea, el, eal⟩ := lsts_at (lsts_same lL1 s2) hx
        rw [lm] at hi
        refine ⟨rfl, yes_go ?_⟩
        refine ⟨_, rfl, a, _, rfl, .inl (SqL.of eal), ?_⟩
        refine ⟨_, e2, by rw [List.length_map, List.length_map, List.length_take]; omega, same_but s2 But.refl.upd nU, ?_⟩
        rw [upd_same, take_more el, List.map_append, List.map_append, List.map_singleton, List.map_singleton, List.length_map]
      rintro H2 ⟨s2, e2⟩
      rw [lm, List.take_length] at e2
      refine ⟨U, _, rfl, SqL.of e2, by rw [List.length_map]; exact List.length_pos_iff.mpr c, fun mn hmn hle => ?_⟩
      obtain ⟨l0, hl0, rfl⟩ := List.mem_map.mp hmn
      have few : ∀ u ∈ ls, l0.length ≤ u.length := fun u hu => by
        have := hle _ (List.mem_map.mpr ⟨u, hu, rfl⟩)
        omega
      have S2 := s1.trans s2
      have eL2 := s2 _ _ eL1
      have lL2 := lsts_same lL1 s2
      refine ⟨_, rfl, L, rfl, ⟨_, SqL.of eL2⟩, fun V1 nV => ?_⟩
      refine lc_it (walk_list (K := K) (a := L) (xs := as.map V.ref)) (fun i H' => Same H2 H' ∧ ∃ vs : List Addr, H' V1 = some (.lst (vs.map V.ref)) ∧ LstsAt H' vs ((ls.take i).filter fun l => decide (l.length = l0.length)) ∧ vs.length ≤ i) ⟨same_new (Same.refl' _) nV, [], upd_same, .nil, Nat.le_refl _⟩ (fun i H' _ ⟨z, _⟩ => SqL.of (z _ _ eL2)) ?_ ?_
      · rintro i x H3 H4 hi ⟨s3, vs, e3, l3, vl⟩ ⟨rfl, hx⟩
        obtain ⟨a, l, rfl, ea, el, eal⟩ := lsts_at (lsts_same lL2 s3) hx
        rw [lm] at hi
        refine ⟨rfl, ?_⟩
        refine ⟨_, rfl, a, _, rfl, .inl (SqL.of eal), _, rfl, rfl, _, rfl, ?_⟩
        rw [List.length_map, take_more el, List.filter_append]
        have dd : decide (V.int ((l.length : Nat) : Int) = V.int ((l0.length : Nat) : Int)) = decide (l.length = l0.length) := decide_eq_decide.mpr ⟨fun z => by injection z with z; omega, fun z => by rw [z]⟩
        rw [dd]
        by_cases e : l.length = l0.length
        · rw [decide_eq_true e]
          refine iteT ?_
          refine ⟨_, rfl, _, e3, by rw [List.length_map]; omega, same_but s3 But.refl.upd nV, vs ++ [a], by rw [upd_same, List.map_append]; rfl, ?_, by simp; omega⟩
          rw [show [l].filter (fun l => decide (l.length = l0.length)) = [l] by simp [e]]
          have z1 := lsts_put l3 (fun z hz => nn z (List.mem_of_mem_take (List.mem_filter.mp hz).1)) e3 (But.refl.upd (o := .lst (vs.map V.ref ++ [.ref a])))
          refine lsts_app z1 (.cons ?_ .nil)
          rw [upd_ne (fun z => ?_)]
          · exact eal
          · subst z
            rw [eal] at e3
            injection e3 with e3
            injection e3 with e3
            exact int_ref (nn l (List.mem_of_getElem? el)) e3
        · rw [decide_eq_false e]
          refine iteF ⟨s3, vs, e3, ?_, by omega⟩
          rw [show [l].filter (fun l => decide (l.length = l0.length)) = [] by simp [e], List.append_nil]
          exact l3
      rintro H3 ⟨s3, vs, e3, l3, vl⟩
      rw [lm, List.take_length] at l3
      obtain ⟨L2, g1, g2, g3⟩ := prows (K := K) l3
      refine ⟨V1, L2, rfl, by rw [g1]; exact SqL.of e3, fun p hp => (g2 p hp).1, fun L3 perm sorted => fun W H4 nW eW s4 => ?_⟩
      cases L3 with
      | nil =>
        exfalso
        obtain ⟨p, hp, _⟩ := g3 l0 (List.mem_filter.mpr ⟨hl0, decide_eq_true rfl⟩)
        have := perm.mem_iff.mpr hp
        cases this
      | cons p L3 =>
        have mp : p ∈ L2 := perm.mem_iff.mp (List.mem_cons_self ..)
        obtain ⟨_, l, ml, pe, el⟩ := g2 p mp
        obtain ⟨ml1, ml2⟩ := List.mem_filter.mp ml
        have ml2 := of_decide_eq_true ml2
        refine ⟨W, _, 0, .ref p.1, rfl, rfl, SqL.of eW, atI_nat (i := 0) rfl, ?_⟩
        refine qs l p.1 H4 ⟨ml1, fun u hu => by rw [ml2]; exact few u hu, fun u hu hul => ?_⟩ (s4 _ _ el) ((S2.trans s3).trans s4)
        obtain ⟨pu, hpu, eu⟩ := g3 u (List.mem_filter.mpr ⟨hu, decide_eq_true (by omega)⟩)
        have le : zI l ≤ zI u := by
          rw [← pe, ← eu]
          rcases List.mem_cons.mp (perm.mem_iff.mpr hpu) with e | e
          · rw [e]; exact List.le_refl _
          · exact (List.pairwise_cons.mp sorted).1 pu e
        exact lx_of_le le
theorem ok_ringdue {f : Addr} {fd : FuncData} (F : Fun K "_law_ring_due" "_law_ring_due" sRd f fd) (T : Bi mg) (SL : Has P w K mg base "_law_sum" 1 ["_law_rows", "_law_some"] (spSl K)) (FF : Has P w K mg base "_law_first" 1 ["_law_some"] spFf) :
    FnG P w K mg base CX0 2 f fd ["_law_rows", "_law_chains_here"] spRd := by
  refine okG F scRd (fun vs H Q E h => ?_) (fun cdv A out s H vs Q E g hr h => ?_)
  · obtain ⟨R, L, gs, rs, as, ls, m, rfl, _⟩ := h
    rfl
  · obtain ⟨R, L, gs, rs, as, ls, m, rfl, eR, rows, gg, good, lr, hm5, hm, eL, lL, qn, qs⟩ := h
    have szl := sizeLine_eq
    have hu := hr.units
    have hr1 : Room 1 _ := hr
    have la := Paired.length lL
    have lm : (ls.map V.ref).length = (KN.chs rs m).length := by rw [List.length_map, la]
    have cl := KN.chs_len (C := rs) lr hm5
    have p5 : 7 ^ m ≤ 16807 := Nat.pow_le_pow_right (n := 7) (by decide) hm5
    refine ⟨_, (pss_cons (ps_setLc (i := 3) (own := [("_law_some", 2)]) (g := gName 2) (tt := tAnd (tTest (tOp (rEqD K) (tOp (rIxT K) (tOp (rIxL K) (tVar 0) (tOp (rIxL K) (tVar 2) (tC (.int 0)))) (tC (.int 0))) (tOp (rIxT K) (tOp (rIxL K) (tVar 0) (tOp (rIxL K) (tVar 2) (tUn (rU fun i => V.int (-i)) (tC (.int 1))))) (tC (.int 1))))) (tTest (tOp (rI0 fun i j => V.bl (decide (i < j))) ((tGo (["_law_rows", "_law_some"] : List Str).length 0 (spSl K) (fun vs _ => vs) E0 (tCons (tVar 0) (tCons (tVar 2) tNil)) tNil)) (tC (.int 0))))) (te := tVar 2) rfl scRd.nd rfl rfl (sw_true rfl rfl rfl (by decide +kernel)) (pi_list (pv 1)) (blkOk_by (own := [("_law_some", 2)]) (N := nRd) (sc := defScope sRd) (by decide +kernel)) (fun _ _ _ _ _ => by exact (pg_name (i := 2) scRd.nd rfl (.inl rfl))) (fun _ _ _ _ _ => by exact (pts_one (PW.pt (pw_and (pt_cmpR (op_eqD hu) (pe_ix ix_tup (pe_ix ix_list (pv 0) (pe_ix ix_list (pv 2) pe_int (fun _ _ => rfl)) (fun _ _ => rfl)) pe_int (fun _ _ => rfl)) (pe_ix ix_tup (pe_ix ix_list (pv 0) (pe_ix ix_list (pv 2) (pe_un un_neg pe_int) (fun _ _ => rfl)) (fun _ _ => rfl)) pe_int (fun _ _ => rfl)) (nomark _)) (pw_and1 (pt_cmpR op_lt (pe_has SL g hr1 (by rfl) (pa_cons (pv 0) (pa_cons (pv 2) pa_nil))) pe_int (nomark _))))))) (fun _ _ _ _ _ => by exact (pv 2)))
      (pss_one (ps_ret (pe_has FF g hr1 (by rfl) (pa_cons (pv 3) pa_nil))))), ?_⟩
    refine ⟨_, rfl, L, rfl, ⟨_, SqL.of eL⟩, fun U nU => ?_⟩
    refine lc_it (walk_list (K := K) (a := L) (xs := ls.map V.ref)) (fun i H' => Same H H' ∧ ∃ vs : List Addr, H' U = some (.lst (vs.map V.ref)) ∧ LstsAt H' vs (((KN.chs rs m).take i).filter (KN.neg rs)) ∧ vs.length ≤ i) ⟨same_new (Same.refl' _) nU, [], upd_same, .nil, Nat.le_refl _⟩ (fun i H' _ ⟨z, _⟩ => SqL.of (z _ _ eL)) ?_ ?_
    · rintro i x H3 H4 hi ⟨s3, vs, e3, l3, vl⟩ ⟨rfl, hx⟩
      obtain ⟨a, l, rfl, ea, el, eal⟩ := lsts_at (lsts_same lL s3) hx
      have mem := List.mem_of_getElem? el
      obtain ⟨nl, ll, p, q, s, pl⟩ := KN.mem_chs.mp mem
      rw [lm] at hi
      have hd := pl.headFrom nl
      have lt := pl.lastTo nl
      obtain ⟨l', ix, e1⟩ : ∃ l' i, l = l' ++ [i] := ⟨l.dropLast, l.getLast nl, (List.dropLast_concat_getLast nl).symm⟩
      obtain ⟨hx0, ht, e2⟩ : ∃ a r, l = a :: r := by cases l with | nil => exact absurd rfl nl | cons a r => exact ⟨a, r, rfl⟩
      have k1 : hx0 < rs.length := pl.lt _ (by rw [e2]; exact List.mem_cons_self ..)
      have k2 : ix < rs.length := pl.lt _ (by rw [e1]; simp)
      have r1 : rs[hx0]? = some rs[hx0] := List.getElem?_eq_getElem k1
      have r2 : rs[ix]? = some rs[ix] := List.getElem?_eq_getElem k2
      have rows3 := rows_same rows s3
      obtain ⟨t1, et1, rt1⟩ := row_at rows3 r1
      obtain ⟨t2, et2, rt2⟩ := row_at rows3 r2
      have g1 := good _ (List.mem_of_getElem? r1)
      have g2 := good _ (List.mem_of_getElem? r2)
      have d1 : p = rs[hx0].1 := by
        rw [e2] at hd
        unfold KN.headFrom at hd
        rw [List.head?_cons, Option.bind_some, r1] at hd
        exact (Option.some.inj hd).symm
      have d2 : q = rs[ix].2.1 := by
        rw [e1] at lt
        unfold KN.lastTo at lt
        rw [List.getLast?_concat, Option.bind_some, r2] at lt
        exact (Option.some.inj lt).symm
      refine ⟨rfl, ?_⟩
      refine ⟨_, rfl, _, rfl, a, _, 0, nI hx0, rfl, rfl, SqL.of eal, by rw [e2]; exact atI_nat (i := 0) rfl, R, _, (hx0 : Int), .ref t1, rfl, rfl, SqL.of (s3 _ _ eR), atI_nat et1, t1, _, 0, oV rs[hx0].1, rfl, rfl, SqT.of rt1, rfl, ?_⟩
      refine ⟨_, rfl, _, rfl, _, rfl, a, _, -1, nI ix, rfl, rfl, SqL.of eal, by rw [e1, List.map_append]; exact atI_last, R, _, (ix : Int), .ref t2, rfl, rfl, SqL.of (s3 _ _ eR), atI_nat et2, t2, _, 1, oV rs[ix].2.1, rfl, rfl, SqT.of rt2, rfl, ?_⟩
      refine ⟨oD rs[hx0].1, oD rs[ix].2.1, dp_o _, dp_o _, shaped_o gg _ g1.one, shaped_o gg _ g2.two, _, rfl, ?_⟩
      have iff := KN.neg_iff pl nl
      rw [eqv_o, ← d1, ← d2, take_more el, List.filter_append]
      have no : KN.neg rs l = false → [l].filter (KN.neg rs) = [] := fun z => by simp [z]
      by_cases c : p = q
      · rw [decide_eq_true c]
        refine iteT ?_
        refine ⟨_, rfl, _, rfl, rfl, rfl, R, a, rs, as, l, rfl, s3 _ _ eR, rows3, SqL.of eal, pl.lt, by omega, fun H5 s5 => ?_⟩
        refine ⟨_, _, rfl, rfl, _, rfl, ?_⟩
        rw [pl.sumL]
        have s35 := s3.trans s5
        by_cases c2 : s < 0
        · rw [decide_eq_true c2]
          refine iteT ?_
          rw [show [l].filter (KN.neg rs) = [l] by simp [iff.mpr ⟨c, c2⟩]]
          refine ⟨_, rfl, _, s5 _ _ e3, by rw [List.length_map]; omega, same_but s35 But.refl.upd nU, vs ++ [a], by rw [upd_same, List.map_append]; rfl, ?_, by simp; omega⟩
          have z1 := lsts_put (lsts_same l3 s5) (fun z hz => chs_nn z (List.mem_of_mem_take (List.mem_filter.mp hz).1)) (s5 _ _ e3) (But.refl.upd (o := .lst (vs.map V.ref ++ [.ref a])))
          refine lsts_app z1 (.cons ?_ .nil)
          rw [upd_ne (fun z => ?_)]
          · exact s5 _ _ eal
          · subst z
            rw [eal] at e3
            injection e3 with e3
            injection e3 with e3
            exact int_ref nl e3
        · rw [decide_eq_false c2]
          refine iteF ⟨s35, vs, s5 _ _ e3, ?_, by omega⟩
          rw [no (by rw [Bool.eq_false_iff]; exact fun z => c2 (iff.mp z).2), List.append_nil]
          exact lsts_same l3 s5
      · rw [decide_eq_false c]
        refine iteF ⟨s3, vs, e3, ?_, by omega⟩
        rw [no (by rw [Bool.eq_false_iff]; exact fun z => c (iff.mp z).1), List.append_nil]
        exact l3
    · rintro H3 ⟨s3, vs, e3, l3, vl⟩
      rw [lm, List.take_length] at l3
      refine ⟨_, rfl, rfl, rfl, U, _, vs, rfl, e3, l3, ?_, fun l hl => ?_, fun l hl => ?_, fun ff H4 s4 => ?_, fun l a H4 ff e4 s4 => ?_⟩
      · have := List.length_filter_le (KN.neg rs) (KN.chs rs m)
        omega
      · have := (KN.mem_chs.mp (List.mem_filter.mp hl).1).2.1
        omega
      · exact chs_nn l (List.mem_filter.mp hl).1
      · exact qn (KN.ringL_first (good_in good) hm ff) H4 (s3.trans s4)
      · exact qs l a H4 (KN.ringL_first (good_in good) hm ff) (KN.mem_chs.mp (List.mem_filter.mp ff.1).1).2.1 e4 (s3.trans s4)
end
end KM

set_option Elab.async false
set_option linter.all false
set_option maxRecDepth 100000
set_option maxHeartbeats 4000000
namespace KM
open PySem PySem.Spec PyProof.Rows L2 GL
/-! whole changes as a dict, whether they keep all by the law's own sums -/
abbrev sKp : Stmt := top 63
abbrev nKp : List Str := ["_law_rows", "_law_changes", "_law_whole", "_law_one", "_law_other", "_law_most"]
theorem scKp : FnScope nKp ["_law_rows", "_law_changes"] (defScope sKp) := ⟨rfl, rfl, rfl, by decide +kernel, rfl, by decide +kernel, by decide +kernel⟩
theorem puts_all {κ : Type} [DecidableEq κ] {k : κ} {v : V} : ∀ (kvs acc : List (κ × V)), (∀ e ∈ kvs, e.1 = k → e.2 = v) → (k ∈ kvs.map (·.1) ∨ valV acc k = some v) → valV (puts acc kvs) k = some v
  | [], acc, _, h => h.elim (fun z => nomatch z) id
  | x :: r, acc, h1, h => by
    refine puts_all r (putK acc x.1 x.2) (fun e he => h1 e (List.mem_cons_of_mem _ he)) ?_
    by_cases c : k = x.1
    · refine .inr ?_
      rw [valV_put, if_pos c, h1 x (List.mem_cons_self ..) c.symm]
    · rcases h with h | h
      · exact .inl ((List.mem_cons.mp h).resolve_left c)
      · refine .inr ?_
        rw [valV_put, if_neg c]
        exact h
/-- whole numbers of places -/
def WholeI (P : Program) (w : World) (H : Hp) (t : Addr) (l : List Pt) (g : Pt → Int) : Prop := ∃ kvs : List (NK × V), H t = some (NDo P w t kvs) ∧ ∀ p ∈ l, valV kvs (kO p) = some (.int (g p))
theorem WholeI.same {P : Program} {w : World} {H H' : Hp} {t : Addr} {l : List Pt} {g : Pt → Int} (h : WholeI P w H t l g) (s : Same H H') : WholeI P w H' t l g := by
  obtain ⟨kvs, e, f⟩ := h
  exact ⟨kvs, s _ _ e, f⟩
theorem WholeI.get {P : Program} {w : World} {H : Hp} {t : Addr} {l : List Pt} {g : Pt → Int} {p : Pt} (h : WholeI P w H t l g) (hp : p ∈ l) : OGet P w H t (oV p) (some (.int (g p))) := by
  obtain ⟨kvs, e, f⟩ := h
  exact .inl ⟨kvs, kO p, e, (nV_kO p).symm, (f p hp).symm⟩
theorem wholes {K : PySem.W.Frag} {H3 H7 : Hp} {g : Pt → Int} {tn : Addr} : ∀ {ps : List Addr} {hs : List Str}, Paired (fun (t : Addr) (q : L2.Key × V) => H3 t = some (.tup [kV q.1, q.2])) ps (chgD hs g) → Same H3 H7 → H7 tn = some (.tup [.non, .int 0]) →
    Paired (fun p (kv : NK × V) => SqT K H7 p [nV kv.1, kv.2]) (ps ++ [tn]) ((hs.map fun x => ((kO (some x) : NK), V.int (g (some x)))) ++ [((kO none : NK), V.int 0)])
  | ps, [], h, _, e => by
    cases h
    exact .cons (SqT.of e) .nil
  | ps, x :: hs, h, s, e => by
    cases h with
    | cons a t => exact .cons (SqT.of (s _ _ a)) (wholes t s e)
theorem wholes_val {hs : List Str} {g : Pt → Int} (g0 : g none = 0) {p : Pt} (hp : p ∈ pts hs) : valV (puts [] ((hs.map fun x => ((kO (some x) : NK), V.int (g (some x)))) ++ [((kO none : NK), V.int 0)])) (kO p) = some (.int (g p)) := by
  refine puts_all _ _ (fun e he c => ?_) (.inl ?_)
  · rcases List.mem_append.mp he with he | he
    · obtain ⟨x, _, rfl⟩ := List.mem_map.mp he
      have z : some x = p := kO_inj (show kO (some x) = kO p from c)
      rw [z]
    · rw [List.mem_singleton.mp he] at c ⊢
      have z : none = p := kO_inj (show kO none = kO p from c)
      rw [← z, g0]
  · rw [List.map_append, List.map_map]
    rcases List.mem_cons.mp hp with rfl | hp
    · exact List.mem_append_right _ (List.mem_singleton.mpr rfl)
    · obtain ⟨x, hx, rfl⟩ := List.mem_map.mp hp
      exact List.mem_append_left _ (List.mem_map.mpr ⟨x, hx, rfl⟩)
abbrev Kept (g : Pt → Int) (rs : List Row) : Prop := ∀ c ∈ rs, g c.1 - g c.2.1 ≤ c.2.2
def spKp : Sp := fun vs H Q _ => ∃ (B d : Addr) (gs hs : List Str) (rs : List Row) (as : List Addr) (g : Pt → Int), vs = [.ref B, .ref d] ∧ H B = some (.lst (as.map V.ref)) ∧ RowsIn H as rs ∧ GoodRows gs rs ∧ rs.length ≤ 30 ∧ H d = some (.dK (chgD hs g)) ∧ hs.Perm gs ∧ hs.length ≤ 4 ∧ g none = 0 ∧
  ∀ H', Same H H' → Q (.bl (decide (Kept g rs))) H'
section
variable {P : Program} {w : World} {K : PySem.W.Frag} {mg : Str → Option Value} {base : Heap}
theorem ok_keeps {f : Addr} {fd : FuncData} (F : Fun K "_law_keeps" "_law_keeps" sKp f fd) (T : Bi mg) : FnG P w K mg base CX0 1 f fd ["_law_rows", "_law_changes"] spKp := by
  refine okG F scKp (fun vs H Q E h => ?_) (fun cdv A out s H vs Q E g hr h => ?_)
  · obtain ⟨B, d, gs, hs, rs, as, gg, rfl, _⟩ := h
    rfl
  · obtain ⟨B, d, gs, hs, rs, as, gg, rfl, eB, rows, good, lr, ed, pm, l4, g0, q⟩ := h
    have szl := sizeLine_eq
    have hu := hr.units
    have la : (as.map V.ref).length = rs.length := by rw [List.length_map]; exact Paired.length rows
    refine ⟨_, (pss_cons (ps_set (i := 2) scKp.nd rfl (.inr rfl) (pe_callTy (call_dictN rfl) (by rfl) T.dict (by decide +kernel) (pa_cons (pe_op op_catL (LiI.pe_listItems (by rfl) (pv 1) (by rfl) T.list (by decide +kernel)) (pe_lstL (pa_cons (pe_tupL (pa_cons pe_non (pa_cons pe_int pa_nil))) pa_nil))) pa_nil)))
      (pss_one (ps_ret (pe_callB (cr_all (by rfl)) (by rfl) T.all (by decide +kernel) (pa_cons (pe_lc (own := [("_law_one", 3), ("_law_other", 4), ("_law_most", 5)]) (g := gTup K 3 (gCons (gName 3) (gCons (gName 4) (gCons (gName 5) gNil)))) (tt := tYes) (te := tOp (rI0 fun i j => V.bl (decide (i ≤ j))) (tOp (rI0 fun i j => V.int (i - j)) (tOGet P w (tVar 2) (tVar 3)) (tOGet P w (tVar 2) (tVar 4))) (tVar 5)) (by rfl) scKp.nd (pi_list (pv 0)) (blkOk_by (own := [("_law_one", 3), ("_law_other", 4), ("_law_most", 5)]) (N := nKp) (sc := defScope sKp) (by decide +kernel)) (fun _ _ _ _ _ => by exact (pg_tup rfl (pgs_cons (pg_name (i := 3) scKp.nd rfl (.inl rfl)) (pgs_cons (pg_name (i := 4) scKp.nd rfl (.inl rfl)) (pgs_cons (pg_name (i := 5) scKp.nd rfl (.inl rfl)) pgs_nil))))) (fun _ _ _ _ _ => pts_nil) (fun _ _ _ _ _ => by exact (pe_cmpR op_le (pe_op op_sub (pe_oget (by have := hr.units; exact Nat.lt_of_le_of_lt (Nat.add_le_add_left (by decide) _) this) (pv 2) (pv 3) (fun _ _ => rfl)) (pe_oget (by have := hr.units; exact Nat.lt_of_le_of_lt (Nat.add_le_add_left (by decide) _) this) (pv 2) (pv 4) (fun _ _ => rfl))) (pv 5) (nomark _)))) pa_nil))))), ?_⟩
    refine ⟨_, rfl, d, _, rfl, ed, fun H1 L1 ts s1 n1 nt nin e1 pr => ?_⟩
    refine ⟨by show 2 ≤ sizeLine; omega, fun tn H2 n2 e2 s2 => ⟨by show 1 ≤ sizeLine; omega, fun l1 H3 n3 e3 s3 => ?_⟩⟩
    have lt := Paired.length pr
    have lc4 : (chgD hs gg).length = hs.length := by unfold chgD; rw [List.length_map]
    refine ⟨L1, l1, _, _, rfl, rfl, (s2.trans s3) _ _ e1, e3, by rw [List.length_map]; show ts.length + 1 ≤ sizeLine; omega, fun L2 H4 n4 e4 s4 => ?_⟩
    have s24 := (s2.trans s3).trans s4
    have pk := wholes (K := K) pr s24 (s4 _ _ (s3 _ _ e2))
    refine ⟨L2, ts ++ [tn], _, rfl, SqL.of (by rw [e4]; simp), pk, fun W H5 n5 e5 s5 => ?_⟩
    have S5 : Same H H5 := fun a o e => s5 _ _ (s24 _ _ (s1 _ _ e))
    have wh : ∀ {p : Pt}, p ∈ pts gs → OGet P w H5 W (oV p) (some (.int (gg p))) := fun {p} hp => .inl ⟨_, kO p, e5, (nV_kO p).symm, (wholes_val g0 (by
      rcases List.mem_cons.mp hp with rfl | hp
      · exact List.mem_cons_self ..
      · obtain ⟨x, hx, rfl⟩ := List.mem_map.mp hp
        exact List.mem_cons_of_mem _ (List.mem_map.mpr ⟨x, pm.mem_iff.mpr hx, rfl⟩))).symm⟩
    refine ⟨_, rfl, B, rfl, ⟨_, SqL.of (S5 _ _ eB)⟩, fun L3 nL3 => ?_⟩
    refine lc_it (walk_list (K := K) (a := B) (xs := as.map V.ref)) (fun i H' => Same H5 H' ∧ ∃ bs : List Bool, H' L3 = some (.lst (bs.map V.bl)) ∧ bs.length ≤ i ∧ (bs.all id = true ↔ Kept gg (rs.take i))) ⟨same_new (Same.refl' _) nL3, [], upd_same, Nat.le_refl _, by simp⟩ (fun i H' _ ⟨z, _⟩ => SqL.of (z _ _ (S5 _ _ eB))) ?_ ?_
    · rintro i x J1 J2 hi ⟨s9, bs, e9, lb, iff9⟩ ⟨rfl, hx⟩
      obtain ⟨tr, r, rfl, er, et⟩ := rows_at (rows_same rows (S5.trans s9)) hx
      have gr := good r (List.mem_of_getElem? er)
      rw [la] at hi
      refine ⟨tr, _, rfl, SqT.of et, rfl, _, _, rfl, _, _, rfl, _, _, rfl, rfl, rfl, yes_go ?_⟩
      have og : ∀ {p : Pt}, p ∈ pts gs → OGet P w J2 W (oV p) (some (.int (gg p))) := fun {p} hp => by
        rcases wh hp with ⟨kvs, k, a, b, c⟩ | ⟨kvs, ks, b0, a, b, _⟩
        · exact .inl ⟨kvs, k, s9 _ _ a, b, c⟩
        · cases p <;> cases b
      refine ⟨_, rfl, _, rfl, W, _, rfl, og (in_pts gr.one), _, rfl, _, rfl, W, _, rfl, og (in_pts gr.two), _, _, rfl, rfl, _, rfl, _, _, rfl, rfl, ?_⟩
      refine ⟨_, e9, by rw [List.length_map]; exact small1000 (by omega), same_but s9 But.refl.upd nL3, bs ++ [decide (gg r.1 - gg r.2.1 ≤ r.2.2)], by rw [upd_same]; simp, by simp; omega, ?_⟩
      rw [take_more er, List.all_append, Bool.and_eq_true, iff9]
      constructor
      · rintro ⟨h1, h2⟩ c hc
        rcases List.mem_append.mp hc with hc | hc
        · exact h1 c hc
        · rw [List.mem_singleton.mp hc]
          have h2 : decide (gg r.1 - gg r.2.1 ≤ r.2.2) = true := by simpa using h2
          exact of_decide_eq_true h2
      · intro h
        refine ⟨fun c hc => h c (List.mem_append_left _ hc), ?_⟩
        have := h r (List.mem_append_right _ (List.mem_singleton.mpr rfl))
        simpa using this
    · rintro J1 ⟨s9, bs, e9, lb, iff9⟩
      rw [la, List.take_of_length_le (Nat.le_refl _)] at iff9
      refine ⟨L3, bs, rfl, SqL.of e9, ?_⟩
      show Q (V.bl (bs.all id)) J1
      have z : bs.all id = decide (Kept gg rs) := by
        cases hb : bs.all id with
        | true => exact (decide_eq_true (iff9.mp hb)).symm
        | false => exact (decide_eq_false fun z => by rw [iff9.mpr z] at hb; cases hb).symm
      rw [z]
      exact q J1 (S5.trans s9)
end
end KM

set_option Elab.async false
set_option linter.all false
set_option maxRecDepth 100000
set_option maxHeartbeats 4000000
namespace KM
open PySem PySem.Spec PyProof.Rows L2 GL
/-! values of all kinds -/
inductive Kd (H : Hp) : V → String → Prop where
  | non : Kd H .non "NoneType"
  | bl (b : Bool) : Kd H (.bl b) "bool"
  | int (i : Int) : Kd H (.int i) "int"
  | str (x : Str) : Kd H (.str x) "str"
  | lst {a : Addr} {xs : List V} : H a = some (.lst xs) → Kd H (.ref a) "list"
  | tup {a : Addr} {xs : List V} : H a = some (.tup xs) → Kd H (.ref a) "tuple"
  | dK {a : Addr} {kvs : List (L2.Key × V)} : H a = some (.dK kvs) → Kd H (.ref a) "dict"
theorem Kd.ty {K : PySem.W.Frag} {H : Hp} {x : V} {n : String} (h : Kd H x n) : TyX K H x (.type n) := by
  cases h with
  | non => exact .base .non
  | bl b => exact .base (.bl b)
  | int i => exact .base (.int i)
  | str x => exact .base (.str x)
  | lst e => exact .base (.lst e)
  | tup e => exact .base (.tup e)
  | dK e => exact .base (.dK e)
theorem Kd.same {H H' : Hp} {x : V} {n : String} (h : Kd H x n) (s : Same H H') : Kd H' x n := by
  cases h with
  | non => exact .non
  | bl b => exact .bl b
  | int i => exact .int i
  | str x => exact .str x
  | lst e => exact .lst (s _ _ e)
  | tup e => exact .tup (s _ _ e)
  | dK e => exact .dK (s _ _ e)
theorem Kd.but {H H' : Hp} {x : V} {n : String} {p : Addr} {xs ys : List V} (h : Kd H x n) (e : H p = some (.lst xs)) (e' : H' p = some (.lst ys)) (b : But p H H') : Kd H' x n := by
  cases h with
  | non => exact .non
  | bl b => exact .bl b
  | int i => exact .int i
  | str x => exact .str x
  | @lst a zs z =>
    by_cases c : a = p
    · subst c
      exact .lst e'
    · exact .lst (b _ _ c z)
  | @tup a zs z => exact .tup (b _ _ (ne_of z e (by intro q; cases q)) z)
  | @dK a zs z => exact .dK (b _ _ (ne_of z e (by intro q; cases q)) z)
def kinds : List String := ["NoneType", "bool", "int", "str", "list", "tuple", "dict"]
theorem Kd.mem {H : Hp} {x : V} {n : String} (h : Kd H x n) : n ∈ kinds := by cases h <;> decide
def cntV : V → Bool
  | .int i => decide (0 ≤ i)
  | _ => false
def isI (n : String) : Bool := n == "int"
def isSq (n : String) : Bool := n == "list" || n == "tuple"
def spIntA : Sp := fun vs H Q _ => ∃ x n, vs = [x] ∧ Kd H x n ∧ ∀ H', Same H H' → Q (.bl (isI n)) H'
def spCntA : Sp := fun vs H Q _ => ∃ x n, vs = [x] ∧ Kd H x n ∧ ∀ H', Same H H' → Q (.bl (cntV x)) H'
def spLsA : Sp := fun vs H Q _ => ∃ x n, vs = [x] ∧ Kd H x n ∧ ∀ H', Same H H' → Q (.bl (isSq n)) H'
section
variable {P : Program} {w : World} {K : PySem.W.Frag} {mg : Str → Option Value} {base : Heap}
theorem ok_intA {f : Addr} {fd : FuncData} (F : Fun K "is_integer" "is_integer" sInt f fd) (T : Bi mg) : FnG P w K mg base CX0 1 f fd ["value"] spIntA := by
  refine okG F scInt (fun vs H Q E h => ?_) (fun cdv A out s H vs Q E g hr h => ?_)
  · obtain ⟨x, n, rfl, _⟩ := h
    rfl
  · obtain ⟨x, n, rfl, hk, q⟩ := h
    have ty : TyX K H x (.type n) := hk.ty
    have q0 := q _ (Same.refl' _)
    refine ⟨_, (pss_one (ps_ret (pe_and (pe_callB call_isi (by rfl) T.isinstance (by decide +kernel) (pa_cons (pv 0) (pa_cons (pe_bltn (v := .ty "int") (u := .type "int") (by rfl) T.int (by decide +kernel) rfl) pa_nil))) (pe_one (pe_not (pe_callB call_isi (by rfl) T.isinstance (by decide +kernel) (pa_cons (pv 0) (pa_cons (pe_bltn (v := .ty "bool") (u := .type "bool") (by rfl) T.bool (by decide +kernel) rfl) pa_nil)))))))), ?_⟩
    cases hk with
    | int i => exact ⟨_, rfl, _, .ty "int", .type _, .type "int", true, rfl, .ty "int", ty, kit_ty (by decide +kernel), true, rfl, _, rfl, _, .ty "bool", .type _, .type "bool", false, rfl, .ty "bool", ty, kit_ty (by decide +kernel), false, rfl, by simpa [isI] using q0⟩
    | bl b => exact ⟨_, rfl, _, .ty "int", .type _, .type "int", true, rfl, .ty "int", ty, kit_ty (by decide +kernel), true, rfl, _, rfl, _, .ty "bool", .type _, .type "bool", true, rfl, .ty "bool", ty, kit_ty (by decide +kernel), true, rfl, by simpa [isI] using q0⟩
    | non => exact ⟨_, rfl, _, .ty "int", .type _, .type "int", false, rfl, .ty "int", ty, kit_ty (by decide +kernel), false, rfl, by simpa [isI] using q0⟩
    | str => exact ⟨_, rfl, _, .ty "int", .type _, .type "int", false, rfl, .ty "int", ty, kit_ty (by decide +kernel), false, rfl, by simpa [isI] using q0⟩
    | lst => exact ⟨_, rfl, _, .ty "int", .type _, .type "int", false, rfl, .ty "int", ty, kit_ty (by decide +kernel), false, rfl, by simpa [isI] using q0⟩
    | tup => exact ⟨_, rfl, _, .ty "int", .type _, .type "int", false, rfl, .ty "int", ty, kit_ty (by decide +kernel), false, rfl, by simpa [isI] using q0⟩
    | dK => exact ⟨_, rfl, _, .ty "int", .type _, .type "int", false, rfl, .ty "int", ty, kit_ty (by decide +kernel), false, rfl, by simpa [isI] using q0⟩
theorem ok_cntA {f : Addr} {fd : FuncData} (F : Fun K "is_count" "is_count" sCnt f fd) (I : Has P w K mg base "is_integer" 1 ["value"] spIntA) : FnG P w K mg base CX0 2 f fd ["value"] spCntA := by
  refine okG F scCnt (fun vs H Q E h => ?_) (fun cdv A out s H vs Q E g hr h => ?_)
  · obtain ⟨x, n, rfl, _⟩ := h
    rfl
  · obtain ⟨x, n, rfl, hk, q⟩ := h
    refine ⟨_, (pss_one (ps_ret (pe_and (pe_has I g hr (by rfl) (pa_cons (pv 0) pa_nil)) (pe_one (pe_cmpR op_ge (pv 0) pe_int (nomark _)))))), ?_⟩
    refine ⟨_, rfl, rfl, rfl, x, n, rfl, hk, fun H' s' => ⟨_, rfl, ?_⟩⟩
    have q0 := q _ s'
    cases hk with
    | int i => exact ⟨_, rfl, _, _, rfl, rfl, q0⟩
    | bl b => exact q0
    | non => exact q0
    | str => exact q0
    | lst => exact q0
    | tup => exact q0
    | dK => exact q0
theorem ok_lsA {f : Addr} {fd : FuncData} (F : Fun K "is_list" "is_list" sLs f fd) (T : Bi mg) : FnG P w K mg base CX0 1 f fd ["value"] spLsA := by
  refine okG F scLs (fun vs H Q E h => ?_) (fun cdv A out s H vs Q E g hr h => ?_)
  · obtain ⟨x, n, rfl, _⟩ := h
    rfl
  · obtain ⟨x, n, rfl, hk, q⟩ := h
    refine ⟨_, (pss_one (ps_ret (pe_callB call_isiT (by rfl) T.isinstance (by decide +kernel) (pa_cons (pv 0) (pa_cons (pe_tupL (pa_cons (pe_bltn (v := .ty "list") (u := .type "list") (by rfl) T.list (by decide +kernel) rfl) (pa_cons (pe_bltn (v := .ty "tuple") (u := .type "tuple") (by rfl) T.tuple (by decide +kernel) rfl) pa_nil))) pa_nil))))), ?_⟩
    refine ⟨_, rfl, by show 2 ≤ sizeLine; decide, fun tp H1 n1 e1 s1 => ?_⟩
    have q0 := q _ s1
    have ty : TyX K H1 x (.type n) := (hk.same s1).ty
    have no : ∀ {n : String}, kitB n "list" = some false → kitB n "tuple" = some false → PySem.W.kitAny K (.type n) [.type "list", .type "tuple"] = some false := fun h1 h2 => kitAny_cons (b := false) (kit_ty h1) (fun _ => kitAny_cons (b := false) (kit_ty h2) (fun _ => rfl) (fun z => by cases z)) (fun z => by cases z)
    have go : ∀ b : Bool, PySem.W.kitAny K (.type n) [.type "list", .type "tuple"] = some b → isSq n = b → rIsiT K [x, .ref tp] H1 Q := fun b h z => ⟨x, tp, _, .type n, [.type "list", .type "tuple"], b, rfl, e1, .cons (.ty "list") (.cons (.ty "tuple") .nil), ty, h, by rw [← z]; exact q0⟩
    cases hk with
    | int i => exact go false (no (by decide +kernel) (by decide +kernel)) (by decide)
    | bl b => exact go false (no (by decide +kernel) (by decide +kernel)) (by decide)
    | non => exact go false (no (by decide +kernel) (by decide +kernel)) (by decide)
    | str => exact go false (no (by decide +kernel) (by decide +kernel)) (by decide)
    | dK => exact go false (no (by decide +kernel) (by decide +kernel)) (by decide)
    | lst => exact go true (kitAny_cons (b := true) (kit_ty (by decide +kernel)) (fun z => by cases z) (fun _ => rfl)) (by decide)
    | tup => exact go true (kitAny_cons (b := false) (kit_ty (by decide +kernel)) (fun _ => kitAny_cons (b := true) (kit_ty (by decide +kernel)) (fun z => by cases z) (fun _ => rfl)) (fun z => by cases z)) (by decide)
end
end KM

set_option Elab.async false
set_option linter.all false
set_option maxRecDepth 100000
set_option maxHeartbeats 4000000
namespace GL
open PySem PySem.Spec PyProof.Rows L2
/-! for x in s, s a list or a tuple -/
def SeqGo (K : PySem.W.Frag) (a : Addr) (H : Hp) (R : It → Hp → Prop) : Prop := ((∃ xs, SqL K H a xs) ∧ R (Itl K a) H) ∨ ((∃ xs, SqT K H a xs) ∧ R (Itt K a) H)
def iSeq (K : PySem.W.Frag) (tl : TE) : TI := fun σ H R => tl σ H fun x H1 => ∃ a, x = .ref a ∧ SeqGo K a H1 R
theorem pi_seq {X : Cx} {tg l : Expr} {tl : TE} (hl : PE X l tl) : PI X tg l (iSeq X.K tl) := by
  constructor
  intro pins s σ H R I h
  refine thn (hl.run pins s σ H _ I h) ?_
  rintro v s1 ⟨_, H1, I1, r1, a, rfl, hq⟩
  cases r1
  rcases hq with ⟨⟨xs, hx⟩, q⟩ | ⟨⟨xs, hx⟩, q⟩
  · obtain ⟨its, rv, p, _⟩ := I1.list hx
    apply wpAny_pyIter_list p.isList
    have J := I1.kept (t' := s1.toks) (h' := s1.heap.push { cls := .type "list_iterator", data := .fields #[.ref a, .int 0 0] }) fun b o e => Heap.get?_push_of_some _ e
    exact ⟨_, [_], _, _, H1, rfl, J, turn_list a _, ⟨_, Heap.get?_push_size _ rfl, rfl, rfl⟩, (fun b hb => by rw [List.mem_singleton.mp hb]; exact I1.fpOk (Nat.le_refl _) (I1.hok.fresh (Nat.le_refl _))), q⟩
  · obtain ⟨its, rv, p, _⟩ := I1.tuple hx
    apply wpAny_pyIter_tuple (show s1.heap.IsTuple a its.toArray from p)
    have J := I1.kept (t' := s1.toks) (h' := s1.heap.push { cls := .type "tuple_iterator", data := .fields #[.ref a, .int 0 0] }) fun b o e => Heap.get?_push_of_some _ e
    exact ⟨_, [_], _, _, H1, rfl, J, turn_tuple a _, ⟨_, Heap.get?_push_size _ rfl, rfl, rfl⟩, (fun b hb => by rw [List.mem_singleton.mp hb]; exact I1.fpOk (Nat.le_refl _) (I1.hok.fresh (Nat.le_refl _))), q⟩
end GL

set_option Elab.async false
set_option linter.all false
set_option maxRecDepth 100000
set_option maxHeartbeats 4000000
namespace KM
open PySem PySem.Spec PyProof.Rows L2 GL
/-! closed lists of positions -/
def rowOf (rs : List Row) (k : Nat) : Row := (rs[k]?).getD (none, none, 0)
theorem rowOf_at {rs : List Row} {k : Nat} (h : k < rs.length) : rs[k]? = some (rowOf rs k) := by
  unfold rowOf
  rw [List.getElem?_eq_getElem h]
  rfl
def chk : Pt → List Row → Bool
  | _, [] => true
  | a, r :: T => decide (r.1 = a) && chk r.2.1 T
def endOf (a : Pt) (T : List Row) : Pt := (T.getLast?.map (·.2.1)).getD a
theorem chk_snoc {r : Row} : ∀ {a : Pt} {T : List Row}, chk a (T ++ [r]) = (chk a T && decide (r.1 = endOf a T))
  | a, [] => Bool.and_comm _ _
  | a, t :: T => by
    show (decide (t.1 = a) && chk t.2.1 (T ++ [r])) = _
    rw [chk_snoc]
    have e : endOf a (t :: T) = endOf t.2.1 T := by
      unfold endOf
      cases T with
      | nil => rfl
      | cons u T => rw [List.getLast?_cons_cons]; rw [List.getLast?_eq_some_getLast (l := u :: T) (by simp)]; rfl
    rw [e, ← Bool.and_assoc]
    rfl
theorem chk_pl {rs : List Row} : ∀ {l : List Nat} {a : Pt}, (∀ k ∈ l, k < rs.length) → chk a (l.map (rowOf rs)) = true → ∃ b s, KN.PL rs a b l s
  | [], a, _, _ => ⟨a, 0, .nil⟩
  | k :: l, a, h, c => by
    have c : (decide ((rowOf rs k).1 = a) && chk (rowOf rs k).2.1 (l.map (rowOf rs))) = true := c
    rw [Bool.and_eq_true, decide_eq_true_iff] at c
    obtain ⟨b, s, w⟩ := chk_pl (fun k hk => h k (List.mem_cons_of_mem _ hk)) c.2
    exact ⟨b, _, .cons (by rw [rowOf_at (h k (List.mem_cons_self ..)), ← c.1]) w⟩
theorem pl_chk {rs : List Row} {a b : Pt} {l : List Nat} {s : Int} (h : KN.PL rs a b l s) : chk a (l.map (rowOf rs)) = true := by
  induction h with
  | nil => rfl
  | @cons a b c i m s l e _ ih =>
    show (decide ((rowOf rs i).1 = a) && chk (rowOf rs i).2.1 (l.map (rowOf rs))) = true
    have z : rowOf rs i = (a, b, m) := by unfold rowOf; rw [e]; rfl
    rw [z, Bool.and_eq_true]
    exact ⟨decide_eq_true rfl, ih⟩
/-- a list of positions that closes with a sum below 0 -/
def RgL (rs : List Row) (l : List Nat) : Prop := ∃ a s, KN.PL rs a a l s ∧ s < 0
theorem last_row {rs : List Row} {l' : List Nat} {i : Nat} : ((l' ++ [i]).map (rowOf rs)).getLast? = some (rowOf rs i) := by simp
theorem rgl_iff {rs : List Row} {l' : List Nat} {i : Nat} (lt : ∀ k ∈ l' ++ [i], k < rs.length) :
    RgL rs (l' ++ [i]) ↔ chk (rowOf rs i).2.1 ((l' ++ [i]).map (rowOf rs)) = true ∧ KN.sumL rs (l' ++ [i]) < 0 := by
  have ei := rowOf_at (lt i (by simp))
  have nn : l' ++ [i] ≠ [] := by simp
  have le : KN.lastTo rs (l' ++ [i]) = some (rowOf rs i).2.1 := by
    unfold KN.lastTo
    rw [List.getLast?_concat, Option.bind_some, ei]
    rfl
  constructor
  · rintro ⟨a, s, w, n⟩
    have e := w.lastTo nn
    rw [le] at e
    rw [Option.some.inj e]
    exact ⟨pl_chk w, by rw [w.sumL]; exact n⟩
  · rintro ⟨c, n⟩
    obtain ⟨b, s, w⟩ := chk_pl lt c
    have e := w.lastTo nn
    rw [le] at e
    have e := Option.some.inj e
    subst e
    exact ⟨_, s, w, by rw [w.sumL] at n; exact n⟩
/-- what is no list of positions for conditions -/
def okPos (n : Nat) (x : V) : Bool := match x with
  | .int i => decide (0 ≤ i) && decide (i < n)
  | _ => false
abbrev Seq (H : Hp) (a : Addr) (xs : List V) : Prop := H a = some (.lst xs) ∨ H a = some (.tup xs)
inductive RgV (H : Hp) (rs : List Row) : V → Bool → Prop where
  | no {x : V} {n : String} : Kd H x n → isSq n = false → RgV H rs x false
  | bad {a : Addr} {xs : List V} : Seq H a xs → (∀ y ∈ xs, ∃ n, Kd H y n) → xs.length ≤ 1000 → (xs = [] ∨ ∃ y ∈ xs, okPos rs.length y = false) → RgV H rs (.ref a) false
  | pos {a : Addr} {l : List Nat} {b : Bool} : Seq H a (l.map nI) → l ≠ [] → (∀ k ∈ l, k < rs.length) → l.length ≤ 1000 → (b = true ↔ RgL rs l) → RgV H rs (.ref a) b
theorem Seq.same {H H' : Hp} {a : Addr} {xs : List V} (h : Seq H a xs) (s : Same H H') : Seq H' a xs := h.imp (s _ _) (s _ _)
theorem Seq.sq {K : PySem.W.Frag} {H : Hp} {a : Addr} {xs : List V} (h : Seq H a xs) : SqL K H a xs ∨ SqT K H a xs := h.imp SqL.of SqT.of
theorem Seq.kd {H : Hp} {a : Addr} {xs : List V} (h : Seq H a xs) : ∃ n, Kd H (.ref a) n ∧ isSq n = true := by
  rcases h with h | h
  · exact ⟨_, .lst h, by decide⟩
  · exact ⟨_, .tup h, by decide⟩
theorem seq_go {K : PySem.W.Frag} {H : Hp} {a : Addr} {xs : List V} {R : It → Hp → Prop} (h : Seq H a xs) (r : ∀ (J : It) (G : Hp → Prop), Walk J xs.length G (YAt xs) → (∀ H', Same H H' → G H') → R J H) :
    SeqGo K a H R := by
  rcases h with h | h
  · exact .inl ⟨⟨_, SqL.of h⟩, r _ _ (walk_list (K := K) (a := a) (xs := xs)) fun H' s => SqL.of (s _ _ h)⟩
  · exact .inr ⟨⟨_, SqT.of h⟩, r _ _ (walk_tup (K := K) (a := a) (xs := xs)) fun H' s => SqT.of (s _ _ h)⟩
theorem paired_snoc {α β : Type} {R : α → β → Prop} : ∀ {as : List α} {bs : List β} {b : β}, Paired R as (bs ++ [b]) → ∃ as' a, as = as' ++ [a] ∧ Paired R as' bs ∧ R a b
  | _, [], b, .cons (a := a) h .nil => ⟨[], a, rfl, .nil, h⟩
  | _, _ :: bs, b, .cons (a := a) h t => by
    obtain ⟨as', c, rfl, p, r⟩ := paired_snoc t
    exact ⟨a :: as', c, rfl, .cons h p, r⟩
theorem endOf_take {T' : List Row} {r r' : Row} {i : Nat} (h : (r :: T')[i]? = some r') : r'.2.1 = endOf r.2.1 ((T' ++ [r]).take i) := by
  cases i with
  | zero =>
    have e : r = r' := by simpa using h
    subst e
    rfl
  | succ j =>
    have h : T'[j]? = some r' := by simpa using h
    have lt := (List.getElem?_eq_some_iff.mp h).1
    have h2 : (T' ++ [r])[j]? = some r' := by rw [List.getElem?_append_left lt]; exact h
    rw [take_more h2]
    unfold endOf
    rw [List.getLast?_concat]
    rfl
theorem cut_last {xs : List V} {v : V} : cutV (xs ++ [v]) none (some (-1)) = xs := by
  unfold cutV
  have e0 : HT.sIx (xs ++ [v]).length 0 none = 0 := rfl
  have e1 : HT.sIx (xs ++ [v]).length (xs ++ [v]).length (some (-1)) = xs.length := by
    show (if (-1 : Int) < 0 then (-1 + (((xs ++ [v]).length : Nat) : Int)).toNat else min (-1 : Int).toNat (xs ++ [v]).length) = xs.length
    rw [if_pos (by decide), List.length_append]
    simp
    omega
  rw [e0, e1]
  simp
end KM

set_option Elab.async false
set_option linter.all false
set_option maxRecDepth 100000
set_option maxHeartbeats 4000000
namespace KM
open PySem PySem.Spec PyProof.Rows L2 GL
/-! whether a value is a ring -/
abbrev sIr : Stmt := top 49
abbrev nIr : List Str := ["moves", "value", "conditions", "told", "condition", "ahead", "position"]
structure Bz (mg : Str → Option Value) : Prop where
  zip : mg "zip" = none
theorem scIr : FnScope nIr ["moves", "value"] (defScope sIr) := ⟨rfl, rfl, rfl, by decide +kernel, rfl, by decide +kernel, by decide +kernel⟩
def spIr (C : Addr) : Sp := fun vs H Q _ => ∃ (m : Addr) (x : V) (gs : List Str) (rs : List Row) (b : Bool), vs = [.ref m, x] ∧ MovesAt C H m gs rs ∧ Fit gs rs ∧ RgV H rs x b ∧ ∀ H', Same H H' → Q (.bl b) H'
theorem cnt_pos {n : Nat} {y : V} : (∃ i : Int, y = .int i ∧ okPos n y = (cntV y && decide (i < n))) ∨ (cntV y = false ∧ okPos n y = false) := by
  cases y with
  | int i => exact .inl ⟨i, rfl, rfl⟩
  | _ => exact .inr ⟨rfl, rfl⟩
section
variable {P : Program} {w : World} {K : PySem.W.Frag} {mg : Str → Option Value} {base : Heap} {C : Addr}
theorem ok_isring {f : Addr} {fd : FuncData} (F : Fun K "is_ring" "is_ring" sIr f fd) (T : Bi mg) (Z : Bz mg) (M : Mv P w K mg base C) (LS : Has P w K mg base "is_list" 1 ["value"] spLsA) (CN : Has P w K mg base "is_count" 2 ["value"] spCntA) :
    FnG P w K mg base CX0 3 f fd ["moves", "value"] (spIr C) := by
  refine okG F scIr (fun vs H Q E h => ?_) (fun cdv A out s H vs Q E g hr h => ?_)
  · obtain ⟨m, x, gs, rs, b, rfl, _⟩ := h
    rfl
  · obtain ⟨m, x, gs, rs, b, rfl, hm, fit, rv, q⟩ := h
    have hr2 : Room 2 _ := hr
    have hr1 : Room 1 _ := hr.mono (by decide)
    have hu := hr.units
    have szl := sizeLine_eq
    obtain ⟨dx, fs, em, lk⟩ := hm.ins
    refine ⟨_, (pss_cons (ps_set (i := 2) scIr.nd rfl (.inr rfl) (pe_hasM0 M.conds M.cl g hr1 rfl (pv 0)))
      (pss_cons (ps_if (PW.pt (pw_or (pt_not (pt_val (pe_has LS g hr1 (by rfl) (pa_cons (pv 1) pa_nil)))) (pw_or1 (pt_cmpR op_eq (pe_callB call_len_seq (by rfl) T.len PySem.boot_len (pa_cons (pv 1) pa_nil)) pe_int (nomark _))))) (pss_one (ps_ret pe_bl)) pss_nil)
      (pss_cons (ps_if (pt_not (pt_val (pe_callB (cr_all (by rfl)) (by rfl) T.all (by decide +kernel) (pa_cons (pe_lc (own := [("position", 6)]) (g := gName 6) (tt := tYes) (te := tAndV (tGo (["value"] : List Str).length 0 (spCntA) (fun vs _ => vs) E0 (tCons (tVar 6) tNil) tNil) (tOp (rI0 fun i j => V.bl (decide (i < j))) (tVar 6) (tCB (rLenQ K) (tCons (tVar 2) tNil)))) (by rfl) scIr.nd (pi_seq (pv 1)) (blkOk_by (own := [("position", 6)]) (N := nIr) (sc := defScope sIr) (by decide +kernel)) (fun _ _ _ _ _ => by exact (pg_name (i := 6) scIr.nd rfl (.inl rfl))) (fun _ _ _ _ _ => pts_nil) (fun _ _ _ _ _ => by exact (pe_and (pe_has CN g hr2 (by rfl) (pa_cons (pv 6) pa_nil)) (pe_one (pe_cmpR op_lt (pv 6) (pe_callB call_len_seq (by rfl) T.len PySem.boot_len (pa_cons (pv 2) pa_nil)) (nomark _)))))) pa_nil)))) (pss_one (ps_ret pe_bl)) pss_nil)
      (pss_cons (ps_setLc (i := 3) (own := [("position", 6)]) (g := gName 6) (tt := tYes) (te := tOp (rIxL K) (tVar 2) (tVar 6)) rfl scIr.nd rfl rfl (sw_true rfl rfl rfl (by decide +kernel)) (pi_seq (pv 1)) (blkOk_by (own := [("position", 6)]) (N := nIr) (sc := defScope sIr) (by decide +kernel)) (fun _ _ _ _ _ => by exact (pg_name (i := 6) scIr.nd rfl (.inl rfl))) (fun _ _ _ _ _ => pts_nil) (fun _ _ _ _ _ => by exact (pe_ix ix_list (pv 2) (pv 6) (fun _ _ => rfl))))
      (pss_cons (ps_for PassesOwn.never rfl (pi_zip (by rfl) Z.zip (pa_cons (pv 3) (pa_cons (pe_op op_catL (pe_lstL (pa_cons (pe_ix ix_list (pv 3) (pe_un un_neg pe_int) (fun _ _ => rfl)) pa_nil)) (pe_slice slcL (pv 3) po_none (po_some (pe_un un_neg pe_int)))) pa_nil))) (pg_tup rfl (pgs_cons (pg_name (i := 4) scIr.nd rfl (.inl rfl)) (pgs_cons (pg_name (i := 5) scIr.nd rfl (.inl rfl)) pgs_nil)))
      (pss_one (ps_if (pt_cmpR (op_neD hu) (pe_ix ix_tup (pv 4) pe_int (fun _ _ => rfl)) (pe_ix ix_tup (pv 5) pe_int (fun _ _ => rfl)) (nomark _)) (pss_one (ps_ret pe_bl)) pss_nil)))
      (pss_one (ps_ret (pe_cmpR op_lt (pe_callB (cr_sum (by rfl)) (by rfl) T.sum (by decide +kernel) (pa_cons (pe_lc (own := [("condition", 4)]) (g := gName 4) (tt := tYes) (te := tOp (rIxT K) (tVar 4) (tC (.int 2))) (by rfl) scIr.nd (pi_list (pv 3)) (blkOk_by (own := [("condition", 4)]) (N := nIr) (sc := defScope sIr) (by decide +kernel)) (fun _ _ _ _ _ => by exact (pg_name (i := 4) scIr.nd rfl (.inl rfl))) (fun _ _ _ _ _ => pts_nil) (fun _ _ _ _ _ => by exact (pe_ix ix_tup (pv 4) pe_int (fun _ _ => rfl)))) pa_nil)) pe_int (nomark _))))))))), ?_⟩
    refine ⟨_, rfl, m, dx, fs, rfl, em, lk _ (by decide +kernel) (by decide +kernel), rfl, rfl, m, gs, rs, rfl, hm, fun B as H1 n1 e1 rows s1 => ?_⟩
    have la : (as.map V.ref).length = rs.length := by rw [List.length_map]; exact Paired.length rows
    -- what is no list
    have kd : ∃ n, Kd H x n ∧ (isSq n = false → b = false) := by
      cases rv with
      | no h1 h2 => exact ⟨_, h1, fun _ => rfl⟩
      | bad h => obtain ⟨n, a, e⟩ := h.kd; exact ⟨n, a, fun _ => rfl⟩
      | pos h => obtain ⟨n, a, e⟩ := h.kd; exact ⟨n, a, fun z => by rw [e] at z; cases z⟩
    obtain ⟨n, kx, kb⟩ := kd
    refine ⟨_, rfl, rfl, rfl, x, n, rfl, kx.same s1, fun H2 s2 => ⟨_, rfl, ?_⟩⟩
    have S2 := s1.trans s2
    cases sq : isSq n with
    | false =>
      refine iteT ?_
      rw [← kb sq]
      exact q H2 S2
    | true =>
      refine iteF ?_
      -- the items
      have items : ∃ (a : Addr) (xs : List V), x = .ref a ∧ Seq H a xs ∧ (∀ y ∈ xs, ∃ n, Kd H y n) ∧ xs.length ≤ 1000 ∧ ((b = false ∧ (xs = [] ∨ ∃ y ∈ xs, okPos rs.length y = false)) ∨ ∃ l : List Nat, xs = l.map nI ∧ l ≠ [] ∧ (∀ k ∈ l, k < rs.length) ∧ (b = true ↔ RgL rs l)) := by
        cases rv with
        | no h1 h2 =>
          exfalso
          have : ∀ {x : V} {n m : String}, Kd H x n → Kd H x m → isSq n = isSq m := fun h k => by
            cases h <;> cases k <;> first | rfl | (rename_i e1 _ e2; rw [e1] at e2; cases e2)
          rw [this h1 kx, sq] at h2
          cases h2
        | @bad a xs h1 h2 h3 h4 => exact ⟨a, xs, rfl, h1, h2, h3, .inl ⟨rfl, h4⟩⟩
        | @pos a l b h1 h2 h3 h4 h5 => exact ⟨a, l.map nI, rfl, h1, (fun y hy => by obtain ⟨k, _, rfl⟩ := List.mem_map.mp hy; exact ⟨_, .int _⟩), by rw [List.length_map]; exact h4, .inr ⟨l, rfl, h2, h3, h5⟩⟩
      obtain ⟨a, xs, rfl, sx, kxs, lx, alt⟩ := items
      refine ⟨_, rfl, a, xs, rfl, (sx.same S2).sq, rfl, _, rfl, ?_⟩
      by_cases nx : xs = []
      · have z : b = false := by
          rcases alt with ⟨h, _⟩ | ⟨l, h, h2, _⟩
          · exact h
          · rw [nx] at h
            exact absurd (List.map_eq_nil_iff.mp h.symm) h2
        subst nx z
        exact iteT (q H2 S2)
      have lx0 : 0 < xs.length := List.length_pos_iff.mpr nx
      rw [decide_eq_false (fun z => by injection z with z; omega)]
      refine iteF ?_
      refine ⟨_, rfl, a, rfl, seq_go (K := K) (sx.same S2) fun J G wk keep U nU => ?_⟩
      refine lc_it wk (fun i H' => Same H2 H' ∧ H' U = some (.lst (((xs.take i).map (okPos rs.length)).map V.bl))) ⟨same_new (Same.refl' _) nU, upd_same⟩ (fun i H' _ ⟨z, _⟩ => keep _ z) ?_ ?_
      · rintro i y H3 H4 hi ⟨s3, e3⟩ ⟨rfl, hy⟩
        obtain ⟨ny, ky⟩ := kxs y (List.mem_of_getElem? hy)
        refine ⟨rfl, yes_go ?_⟩
        refine ⟨_, rfl, rfl, rfl, y, ny, rfl, (ky.same S2).same s3, fun H5 s5 => ?_⟩
        have s35 := s3.trans s5
        have fin : ∀ bb : Bool, okPos rs.length y = bb → ∃ acc, H5 U = some (.lst acc) ∧ acc.length < sizeLine ∧ (Same H2 (upd H5 U (.lst (acc ++ [.bl bb]))) ∧ upd H5 U (.lst (acc ++ [.bl bb])) U = some (.lst (((xs.take (i + 1)).map (okPos rs.length)).map V.bl))) := fun bb hb => by
          refine ⟨_, s5 _ _ e3, by rw [List.length_map, List.length_map, List.length_take]; omega, same_but s35 But.refl.upd nU, ?_⟩
          rw [upd_same, take_more hy, List.map_append, List.map_append, List.map_singleton, List.map_singleton, hb]
        rcases cnt_pos (n := rs.length) (y := y) with ⟨k, rfl, hk⟩ | ⟨c, hk⟩
        · refine ⟨_, rfl, ?_⟩
          by_cases ck : 0 ≤ k
          · have z : cntV (.int k) = true := decide_eq_true ck
            rw [z] at hk ⊢
            refine iteT ?_
            refine ⟨_, rfl, _, rfl, B, _, rfl, .inl (SqL.of ((s2.trans s35) _ _ e1)), _, _, rfl, rfl, ?_⟩
            rw [la]
            exact fin _ hk
          · have z : cntV (.int k) = false := decide_eq_false ck
            rw [z] at hk ⊢
            exact iteF (fin _ hk)
        · rw [c]
          exact ⟨_, rfl, iteF (fin _ hk)⟩
      rintro H3 ⟨s3, e3⟩
      rw [List.take_length] at e3
      refine ⟨U, _, rfl, SqL.of e3, _, rfl, ?_⟩
      have S3 := S2.trans s3
      rcases alt with ⟨rfl, alt⟩ | ⟨l, rfl, nl, lt, hb⟩
      · obtain ⟨y, hy, oy⟩ := alt.resolve_left nx
        have z : (xs.map (okPos rs.length)).all id = false := by
          rw [List.all_eq_false]
          exact ⟨_, List.mem_map.mpr ⟨y, hy, rfl⟩, by rw [oy]; simp⟩
        rw [z]
        exact iteT (q H3 S3)
      have z : ((l.map nI).map (okPos rs.length)).all id = true := by
        rw [List.all_eq_true]
        intro c hc
        obtain ⟨y, hy, rfl⟩ := List.mem_map.mp hc
        obtain ⟨k, hk, rfl⟩ := List.mem_map.mp hy
        have := lt k hk
        show (decide ((0 : Int) ≤ (k : Nat)) && decide (((k : Nat) : Int) < (rs.length : Nat))) = true
        rw [decide_eq_true (by omega), decide_eq_true (by omega)]
        rfl
      rw [z]
      refine iteF ?_
      refine ⟨_, rfl, a, rfl, seq_go (K := K) (sx.same S3) fun J G wk keep V1 nV => ?_⟩
      have eB3 := (s2.trans s3) _ _ e1
      rw [List.length_map] at lx
      have rows3 := rows_same rows (s2.trans s3)
      -- told: the conditions
      refine lc_it wk (fun i H' => Same H3 H' ∧ ∃ ts : List Addr, H' V1 = some (.lst (ts.map V.ref)) ∧ RowsIn H' ts ((l.take i).map (rowOf rs)) ∧ ts.length ≤ i) ⟨same_new (Same.refl' _) nV, [], upd_same, .nil, Nat.le_refl _⟩ (fun i H' _ ⟨z, _⟩ => keep _ z) ?_ ?_
      · rintro i y H4 H5 hi ⟨s4, ts, e4, r4, l4⟩ ⟨rfl, hy⟩
        obtain ⟨k, hk, rfl⟩ := get_map hy
        obtain ⟨t, et, rt⟩ := row_at (rows_same rows3 s4) (rowOf_at (lt k (List.mem_of_getElem? hk)))
        rw [List.length_map] at hi
        refine ⟨rfl, yes_go ?_⟩
        refine ⟨_, rfl, _, rfl, B, _, (k : Int), .ref t, rfl, rfl, SqL.of (s4 _ _ eB3), atI_nat et, ?_⟩
        refine ⟨_, e4, by rw [List.length_map]; omega, same_but s4 But.refl.upd nV, ts ++ [t], by rw [upd_same, List.map_append]; rfl, ?_, by simp; omega⟩
        rw [take_more hk, List.map_append]
        exact Paired.snoc (rows_but r4 But.refl.upd e4) (by show upd _ _ _ t = _; rw [upd_ne (ne_of rt e4 (by intro q; cases q))]; exact rt)
      rintro H4 ⟨s4, ts, e4, r4, l4⟩
      rw [List.length_map, List.take_length] at r4
      have S4 := S3.trans s4
      have lts := Paired.length r4
      rw [List.length_map] at lts
      obtain ⟨l', ix, rfl⟩ : ∃ l' i, l = l' ++ [i] := ⟨l.dropLast, l.getLast nl, (List.dropLast_concat_getLast nl).symm⟩
      have eix := rowOf_at (lt ix (by simp))
      rw [List.map_append] at r4
      obtain ⟨ts', tl, rfl, rr, rl⟩ := paired_snoc r4
      have ltl := lt ix (by simp)
      have gl := fit.r _ (List.mem_of_getElem? eix)
      refine ⟨_, rfl, ?_⟩
      refine ⟨_, rfl, _, rfl, V1, _, -1, .ref tl, rfl, rfl, SqL.of e4, by rw [List.map_append]; exact atI_last, by show 1 ≤ sizeLine; omega, fun b1 H5 n5 e5 s5 => ?_⟩
      refine ⟨_, rfl, _, rfl, _, rfl, V1, _, rfl, SqL.of (s5 _ _ e4), fun b2 H6 n6 e6 s6 => ?_⟩
      rw [List.map_append, List.map_singleton, cut_last] at e6
      refine ⟨b1, b2, _, _, rfl, rfl, s6 _ _ e5, e6, by rw [List.length_map]; simp at l4 lx ⊢; omega, fun b3 H7 n7 e7 s7 => ?_⟩
      have s47 := (s5.trans s6).trans s7
      have S7 := S4.trans s47
      refine ⟨V1, b3, _, _, rfl, SqL.of (s47 _ _ e4), SqL.of e7, ?_⟩
      have e7' : H7 b3 = some (.lst ((tl :: ts').map V.ref)) := e7
      have e47 := s47 _ _ e4
      have rowsT : RowsIn H7 (ts' ++ [tl]) ((l' ++ [ix]).map (rowOf rs)) := rows_same (by rw [List.map_append]; exact r4) s47
      have rowsP : RowsIn H7 (tl :: ts') (rowOf rs ix :: l'.map (rowOf rs)) := .cons (s47 _ _ rl) (rows_same rr s47)
      have lT : ((ts' ++ [tl]).map V.ref).length = (l' ++ [ix]).length := by rw [List.length_map, lts]
      have iffb := rgl_iff lt
      refine for_it (walk_zip (K := K) (a := V1) (b := b3) (xs := (ts' ++ [tl]).map V.ref) (ys := (tl :: ts').map V.ref) (n := (l' ++ [ix]).length) (by simp at lts ⊢; omega)) (fun i σ' H' => ∃ (x4 x5 x6 : Option V), σ' = [some (.ref m), some (.ref a), some (.ref B), some (.ref V1), x4, x5, x6] ∧ Same H7 H' ∧ chk (rowOf rs ix).2.1 (((l' ++ [ix]).map (rowOf rs)).take i) = true) ?_ ?_ ?_ ?_
      · exact ⟨_, _, _, rfl, Same.refl' _, rfl⟩
      · rintro i σ' H' _ ⟨_, _, _, rfl, z, _⟩
        exact ⟨SqL.of (z _ _ e47), SqL.of (z _ _ e7')⟩
      · rintro i x σ' J1 J2 hi ⟨x4, x5, x6, rfl, s8, ck⟩ ⟨Tp, y, z, rfl, nT, rfl, ey, ez⟩
        obtain ⟨t1, q1, rfl, f1, g1⟩ := rows_at (rows_same rowsT s8) ey
        obtain ⟨t2, q2, rfl, f2, g2⟩ := rows_at (rows_same rowsP s8) ez
        have hT : Same J1 (upd J1 Tp (.tup [.ref t1, .ref t2])) := same_new (Same.refl' _) nT
        have eT : (upd J1 Tp (.tup [.ref t1, .ref t2])) Tp = some (.tup [.ref t1, .ref t2]) := upd_same
        have h1 := hT _ _ g1
        have h2 := hT _ _ g2
        generalize upd J1 Tp (.tup [.ref t1, .ref t2]) = J2 at hT eT h1 h2
        have s9 := s8.trans hT
        have m1 : GoodRow gs q1 := by
          obtain ⟨k, hk, rfl⟩ := get_map f1
          exact fit.r _ (List.mem_of_getElem? (rowOf_at (lt k (List.mem_of_getElem? hk))))
        have m2 : GoodRow gs q2 := by
          rcases List.mem_cons.mp (List.mem_of_getElem? f2) with rfl | h
          · exact gl
          · obtain ⟨k, hk, rfl⟩ := List.mem_map.mp h
            exact fit.r _ (List.mem_of_getElem? (rowOf_at (lt k (List.mem_append_left _ hk))))
        refine ⟨Tp, _, rfl, SqT.of eT, rfl, _, _, rfl, _, _, rfl, rfl, ?_⟩
        refine ⟨_, rfl, t1, _, 0, oV q1.1, rfl, rfl, SqT.of h1, rfl, _, rfl, t2, _, 1, oV q2.2.1, rfl, rfl, SqT.of h2, rfl, oD q1.1, oD q2.2.1, dp_o _, dp_o _, shaped_o fit.g _ m1.one, shaped_o fit.g _ m2.two, _, rfl, ?_⟩
        have ee := endOf_take f2
        rw [show (l'.map (rowOf rs) ++ [rowOf rs ix]) = (l' ++ [ix]).map (rowOf rs) by rw [List.map_append]; rfl] at ee
        have ck2 := chk_snoc (a := (rowOf rs ix).2.1) (T := ((l' ++ [ix]).map (rowOf rs)).take i) (r := q1)
        rw [ck, Bool.true_and, ← take_more f1, ← ee] at ck2
        rw [eqv_o]
        by_cases c : q1.1 = q2.2.1
        · rw [decide_eq_true c] at ck2 ⊢
          exact iteF ⟨_, _, x6, rfl, s9, ck2⟩
        · rw [decide_eq_false c] at ck2 ⊢
          refine iteT ?_
          have z : b = false := by
            rw [Bool.eq_false_iff]
            intro zb
            have := (iffb.mp (hb.mp zb)).1
            have pre : ∀ {T U : List Row} {a : Pt}, chk a (T ++ U) = true → chk a T = true := by
              intro T
              induction T with
              | nil => intro U a _; rfl
              | cons r T ih =>
                intro U a h
                have h : (decide (r.1 = a) && chk r.2.1 (T ++ U)) = true := h
                rw [Bool.and_eq_true] at h
                show (decide (r.1 = a) && chk r.2.1 T) = true
                rw [Bool.and_eq_true]
                exact ⟨h.1, ih h.2⟩
            rw [← List.take_append_drop (i + 1) ((l' ++ [ix]).map (rowOf rs))] at this
            have := pre this
            rw [ck2] at this
            cases this
          rw [← z]
          exact q J2 (S7.trans s9)
      · rintro σ' J1 ⟨x4, x5, x6, rfl, s8, ck⟩
        rw [List.take_of_length_le (by rw [List.length_map]; exact Nat.le_refl _)] at ck
        have e8 := s8 _ _ e47
        refine ⟨_, rfl, V1, rfl, ⟨_, SqL.of e8⟩, fun U2 nU2 => ?_⟩
        refine lc_it (walk_list (K := K) (a := V1) (xs := (ts' ++ [tl]).map V.ref)) (fun i H' => Same J1 H' ∧ H' U2 = some (.lst ((((l' ++ [ix]).take i).map fun k => ((rs[k]?).map (·.2.2)).getD 0).map V.int))) ⟨same_new (Same.refl' _) nU2, upd_same⟩ (fun i H' _ ⟨z, _⟩ => SqL.of (z _ _ e8)) ?_ ?_
        · rintro i x H3 H4 hi ⟨s3, e3⟩ ⟨rfl, hx⟩
          obtain ⟨t1, q1, rfl, f1, g1⟩ := rows_at (rows_same (rows_same rowsT s8) s3) hx
          obtain ⟨k, hk, rfl⟩ := get_map f1
          rw [lT] at hi
          refine ⟨rfl, yes_go ?_⟩
          refine ⟨_, rfl, t1, _, 2, .int (rowOf rs k).2.2, rfl, rfl, SqT.of g1, rfl, ?_⟩
          refine ⟨_, e3, by rw [List.length_map, List.length_map, List.length_take]; omega, same_but s3 But.refl.upd nU2, ?_⟩
          rw [upd_same, take_more hk, List.map_append, List.map_append, List.map_singleton, rowOf_at (lt k (List.mem_of_getElem? hk))]
          rfl
        · rintro H3 ⟨s3, e3⟩
          rw [lT, List.take_length] at e3
          refine ⟨U2, _, rfl, SqL.of e3, _, _, rfl, rfl, ?_⟩
          have z : decide (KN.sumL rs (l' ++ [ix]) < 0) = b := by
            cases hb2 : b with
            | true => exact decide_eq_true (iffb.mp (hb.mp hb2)).2
            | false => exact decide_eq_false fun n => by rw [hb.mpr (iffb.mpr ⟨ck, n⟩)] at hb2; cases hb2
          show Q (V.bl (decide (KN.sumL rs (l' ++ [ix]) < 0))) H3
          rw [z]
          exact q H3 ((S7.trans s8).trans s3)
end
end KM

set_option Elab.async false
set_option linter.all false
set_option maxRecDepth 100000
set_option maxHeartbeats 4000000
namespace KM
open PySem PySem.Spec PyProof.Rows L2 GL
/-! values that are no changes at all -/
structure Rk (K : PySem.W.Frag) (R : Addr) : Prop where
  no : ∀ n ∈ kinds, PySem.W.kitOne K (.type n) (.ref R) = some false
theorem in_dec {gs : List Str} {y : Str} : inV (.str y) (gs.map V.str) = decide (y ∈ gs) := by
  by_cases h : y ∈ gs
  · rw [in_strs h, decide_eq_true h]
  · rw [decide_eq_false h]
    unfold inV
    rw [List.any_eq_false]
    intro v hv
    obtain ⟨x, hx, rfl⟩ := List.mem_map.mp hv
    show ¬ ((x == y) = true)
    rw [beq_iff_eq]
    exact fun e => h (e ▸ hx)
theorem Kd.one {H : Hp} {x : V} {n m : String} (h : Kd H x n) (k : Kd H x m) : n = m := by
  cases h <;> cases k <;> first | rfl | (rename_i e1 _ e2; rw [e1] at e2; cases e2)
inductive JV (H : Hp) (gs : List Str) : V → Prop where
  | no {x : V} {n : String} : Kd H x n → n ≠ "dict" → JV H gs x
  | dict {d : Addr} {hs : List Str} {av : Str → V} : H d = some (.dK (kvD hs av)) → hs.length ≤ 10 → (∀ h ∈ hs, ∃ n, Kd H (av h) n) → ((∃ h ∈ hs, h ∉ gs) ∨ hs.length ≠ gs.length ∨ ((∀ h ∈ gs, h ∈ hs) ∧ ∃ h ∈ gs, ∃ n, Kd H (av h) n ∧ n ≠ "int")) → JV H gs (.ref d)
def spNuA : Sp := fun vs H Q _ => ∃ x n, vs = [x] ∧ Kd H x n ∧ ∀ H', Same H H' → Q (.bl (isI n)) H'
def spKaA : Sp := fun vs H Q _ => ∃ (G : Addr) (x : V) (gs : List Str), vs = [.ref G, x] ∧ H G = some (.lst (gs.map V.str)) ∧
  ((∃ n, Kd H x n ∧ n ≠ "dict" ∧ ∀ H', Same H H' → Q (.bl false) H') ∨ ∃ d hs av, x = .ref d ∧ H d = some (.dK (kvD hs av)) ∧ hs.length ≤ 10 ∧ ∀ H', Same H H' → Q (.bl (hs.all fun h => decide (h ∈ gs))) H')
def spJA : Sp := fun vs H Q _ => ∃ (G : Addr) (x : V) (gs : List Str), vs = [.ref G, x] ∧ H G = some (.lst (gs.map V.str)) ∧ gs.length ≤ 4 ∧ JV H gs x ∧ ∀ H', Same H H' → Q (.bl false) H'
def spIsmA (C : Addr) : Sp := fun vs H Q _ => ∃ m x gs rs, vs = [.ref m, x] ∧ MovesAt C H m gs rs ∧ Fit gs rs ∧ JV H gs x ∧ ∀ H', Same H H' → Q (.bl false) H'
theorem JV.same {H H' : Hp} {gs : List Str} {x : V} (h : JV H gs x) (s : Same H H') : JV H' gs x := by
  cases h with
  | no a b => exact .no (a.same s) b
  | dict a b c d =>
    refine .dict (s _ _ a) b (fun h hh => ?_) ?_
    · obtain ⟨n, k⟩ := c h hh
      exact ⟨n, k.same s⟩
    · rcases d with d | d | ⟨d, h, hh, n, k, e⟩
      · exact .inl d
      · exact .inr (.inl d)
      · exact .inr (.inr ⟨d, h, hh, n, k.same s, e⟩)
theorem scNuA : FnScope ["value"] ["value"] (defScope sNu) := ⟨rfl, rfl, rfl, by decide +kernel, rfl, by decide +kernel, by decide +kernel⟩
section
variable {P : Program} {w : World} {K : PySem.W.Frag} {mg : Str → Option Value} {base : Heap} {C R : Addr}
theorem ok_numA {f : Addr} {fd : FuncData} (F : Fun K "is_number" "is_number" sNu f fd) (T : Bi mg) (C : Rc K mg R) (N : Rk K R) (I : Has P w K mg base "is_integer" 1 ["value"] spIntA) : FnG P w K mg base CX0 2 f fd ["value"] spNuA := by
  refine okG F scNuA (fun vs H Q E h => ?_) (fun cdv A out s H vs Q E g hr h => ?_)
  · obtain ⟨x, n, rfl, _⟩ := h
    rfl
  · obtain ⟨x, n, rfl, hk, q⟩ := h
    have hr1 : Room 1 _ := hr
    refine ⟨_, (pss_one (ps_ret (pe_or (pe_has I g hr1 (by rfl) (pa_cons (pv 0) pa_nil)) (pe_one (pe_callB call_isi (by rfl) T.isinstance (by decide +kernel) (pa_cons (pv 0) (pa_cons (pe_glob (v := .ref R) (by rfl) C.gR rfl) pa_nil))))))), ?_⟩
    refine ⟨_, rfl, rfl, rfl, x, n, rfl, hk, fun H1 s1 => ⟨_, rfl, ?_⟩⟩
    cases e : isI n with
    | true =>
      refine iteT ?_
      rw [← e]
      exact q H1 s1
    | false =>
      refine iteF ?_
      refine ⟨_, rfl, x, .ref R, .type n, .ref R, false, rfl, .own R, (hk.same s1).ty, N.no n hk.mem, ?_⟩
      rw [← e]
      exact q H1 s1
theorem ok_keyedA {f : Addr} {fd : FuncData} (F : Fun K "is_keyed_among" "is_keyed_among" sKa f fd) (T : Bi mg) (AM : Has P w K mg base "is_among" 1 ["names", "value"] (spAmo K)) : FnG P w K mg base CX0 2 f fd ["names", "value"] spKaA := by
  refine okG F scKa (fun vs H Q E h => ?_) (fun cdv A out s H vs Q E g hr h => ?_)
  · obtain ⟨G, x, gs, rfl, _⟩ := h
    rfl
  · obtain ⟨G, x, gs, rfl, eG, alt⟩ := h
    have hr1 : Room 1 _ := hr
    have szl := sizeLine_eq
    refine ⟨_, (pss_one (ps_ret (pe_and (pe_callB call_isi (by rfl) T.isinstance (by decide +kernel) (pa_cons (pv 1) (pa_cons (pe_bltn (v := .ty "dict") (u := .type "dict") (by rfl) T.dict (by decide +kernel) rfl) pa_nil))) (pe_one (pe_callB (cr_all (by rfl)) (by rfl) T.all (by decide +kernel) (pa_cons (pe_lock (pe_lc (own := [("key", 2)]) (g := gName 2) (tt := tYes) (te := tGo (["names", "value"] : List Str).length 0 (spAmo K) (fun vs _ => vs) E0 (tCons (tVar 0) (tCons (tVar 2) tNil)) tNil) (by rfl) scKa.nd (pi_keys (pv 1)) (blkOk_by (own := [("key", 2)]) (N := nKa) (sc := defScope sKa) (by decide +kernel)) (fun _ _ _ _ _ => by exact (pg_name (i := 2) scKa.nd rfl (.inl rfl))) (fun _ _ _ _ _ => pts_nil) (fun _ _ _ _ _ => by exact (pe_has AM g hr1 (by rfl) (pa_cons (pv 0) (pa_cons (pv 2) pa_nil)))))) pa_nil)))))), ?_⟩
    rcases alt with ⟨n, hk, nd, q⟩ | ⟨d, hs, av, rfl, ed, l10, q⟩
    · have k : PySem.W.kitOne K (.type n) (.type "dict") = some false := by
        have all : ∀ n ∈ kinds, n ≠ "dict" → kitB n "dict" = some false := by decide +kernel
        exact kit_ty (all n hk.mem nd)
      exact ⟨_, rfl, x, .ty "dict", .type n, .type "dict", false, rfl, .ty "dict", hk.ty, k, false, rfl, q _ (Same.refl' _)⟩
    refine ⟨_, rfl, .ref d, .ty "dict", .type "dict", .type "dict", true, rfl, .ty "dict", .base (.dK ed), kit_ty (by decide +kernel), true, rfl, ?_⟩
    refine ⟨d, _, ed, trivial, fun od => ?_⟩
    have eF : (upd H d (.frz od (.dK (kvD hs av)))) d = some (.frz od (.dK (kvD hs av))) := upd_same
    have eGF : (upd H d (.frz od (.dK (kvD hs av)))) G = some (.lst (gs.map V.str)) := by rw [upd_ne (ne_of eG ed (by intro z; cases z))]; exact eG
    have unl : ∀ {H' : Hp}, Same (upd H d (.frz od (.dK (kvD hs av)))) H' → Same H (upd H' d (.dK (kvD hs av))) := fun {H'} z => same_unlock ed z
    generalize upd H d (.frz od (.dK (kvD hs av))) = HF at eF eGF unl
    refine ⟨_, rfl, d, od, rfl, .inl ⟨_, eF, ?_⟩⟩
    intro L nL
    refine lc_it (walk_keys (d := d) (o := od) (kvs := kvD hs av)) (fun i H' => Same HF H' ∧ H' L = some (.lst (((hs.take i).map fun h => decide (h ∈ gs)).map V.bl))) ⟨same_new (Same.refl' _) nL, upd_same⟩ (fun i H' _ ⟨z, _⟩ => z _ _ eF) ?_ ?_
    · rintro i x H2 H3 hi ⟨s2, e2⟩ ⟨rfl, k, v, ek, rfl⟩
      rw [List.length_map] at hi
      have ei : (kvD hs av)[i]? = some (Sum.inr hs[i], av hs[i]) := by
        rw [List.getElem?_map, List.getElem?_eq_getElem hi]
        rfl
      have hx : hs[i]? = some hs[i] := List.getElem?_eq_getElem hi
      generalize hs[i] = y at ei hx
      rw [ei] at ek
      cases ek
      refine ⟨rfl, yes_go ?_⟩
      refine ⟨_, rfl, _, rfl, rfl, rfl, y, G, gs, rfl, .inl (SqL.of (s2 _ _ eGF)), fun H4 s4 => ?_⟩
      rw [in_dec]
      refine ⟨_, s4 _ _ e2, by rw [List.length_map, List.length_map, List.length_take]; omega, same_but (s2.trans s4) But.refl.upd nL, ?_⟩
      rw [upd_same, take_more hx, List.map_append, List.map_append, List.map_singleton, List.map_singleton]
    · rintro H2 ⟨s2, e2⟩
      refine ⟨s2 _ _ eF, ?_⟩
      have edF := s2 _ _ eF
      have su := unl s2
      have e3 : (upd H2 d (.dK (kvD hs av))) L = some (.lst (((hs.take (kvD hs av).length).map fun h => decide (h ∈ gs)).map V.bl)) := by rw [upd_ne (ne_of e2 edF (by intro z; cases z))]; exact e2
      generalize upd H2 d (.dK (kvD hs av)) = H3 at su e3
      rw [List.length_map, List.take_length] at e3
      refine ⟨L, _, rfl, SqL.of e3, ?_⟩
      show Q (V.bl ((hs.map fun h => decide (h ∈ gs)).all id)) H3
      have z : (hs.map fun h => decide (h ∈ gs)).all id = hs.all fun h => decide (h ∈ gs) := by rw [List.all_map]; rfl
      rw [z]
      exact q H3 su
theorem ok_justA {f : Addr} {fd : FuncData} (F : Fun K "are_of_just" "are_of_just" sAj f fd) (T : Bi mg) (KA : Has P w K mg base "is_keyed_among" 2 ["names", "value"] spKaA) (N : Has P w K mg base "is_number" 2 ["value"] spNuA) : FnG P w K mg base CX0 3 f fd ["names", "value"] spJA := by
  refine okG F scAj (fun vs H Q E h => ?_) (fun cdv A out s H vs Q E g hr h => ?_)
  · obtain ⟨G, x, gs, rfl, _⟩ := h
    rfl
  · obtain ⟨G, x, gs, rfl, eG, l4, jv, q⟩ := h
    have hr2 : Room 2 _ := hr
    have szl := sizeLine_eq
    refine ⟨_, (pss_cons (ps_if (PW.pt (pw_or (pt_not (pt_val (pe_has KA g hr2 (by rfl) (pa_cons (pv 0) (pa_cons (pv 1) pa_nil))))) (pw_or1 (pt_cmpR op_ne (pe_callB call_lenD (by rfl) T.len PySem.boot_len (pa_cons (pv 1) pa_nil)) (pe_callB call_len_seq (by rfl) T.len PySem.boot_len (pa_cons (pv 0) pa_nil)) (nomark _))))) (pss_one (ps_ret pe_bl)) pss_nil)
      (pss_one (ps_ret (pe_callB (cr_all (by rfl)) (by rfl) T.all (by decide +kernel) (pa_cons (pe_lc (own := [("name", 2)]) (g := gName 2) (tt := tYes) (te := (tGo (["value"] : List Str).length 0 (spNuA) (fun vs _ => vs) E0 (tCons (tDGet (tVar 1) (tVar 2)) tNil) tNil)) (by rfl) scAj.nd (pi_list (pv 0)) (blkOk_by (own := [("name", 2)]) (N := nAj) (sc := defScope sAj) (by decide +kernel)) (fun _ _ _ _ _ => by exact (pg_name (i := 2) scAj.nd rfl (.inl rfl))) (fun _ _ _ _ _ => pts_nil) (fun _ _ _ _ _ => by exact (pe_has N g hr2 (by rfl) (pa_cons (pe_dget (by have := hr.units; exact Nat.lt_of_le_of_lt (Nat.add_le_add_left (by decide) _) this) (pv 1) (pv 2) (fun _ _ => rfl)) pa_nil)))) pa_nil))))), ?_⟩
    cases jv with
    | no hk nd => exact ⟨_, rfl, _, rfl, rfl, rfl, G, x, gs, rfl, eG, .inl ⟨_, hk, nd, fun H1 s1 => ⟨_, rfl, iteT (q H1 s1)⟩⟩⟩
    | @dict d hs av ed l10 kd alt =>
      refine ⟨_, rfl, _, rfl, rfl, rfl, G, .ref d, gs, rfl, eG, .inr ⟨d, hs, av, rfl, ed, l10, fun H1 s1 => ⟨_, rfl, ?_⟩⟩⟩
      have ed1 := s1 _ _ ed
      have eG1 := s1 _ _ eG
      cases ea : hs.all fun h => decide (h ∈ gs) with
      | false => exact iteT (q H1 s1)
      | true =>
        refine iteF ?_
        refine ⟨_, rfl, d, _, rfl, ed1, _, rfl, G, _, rfl, .inl (SqL.of eG1), rfl, _, rfl, ?_⟩
        rw [List.length_map, List.length_map]
        by_cases ll : hs.length = gs.length
        · rw [decide_eq_true (by rw [ll])]
          refine iteF ?_
          have alt : (∀ h ∈ gs, h ∈ hs) ∧ ∃ h ∈ gs, ∃ n, Kd H (av h) n ∧ n ≠ "int" := by
            rcases alt with ⟨h, hh, hn⟩ | h | h
            · exact absurd (of_decide_eq_true (List.all_eq_true.mp ea h hh)) hn
            · exact absurd ll h
            · exact h
          obtain ⟨sub, bad⟩ := alt
          refine ⟨_, rfl, G, rfl, ⟨_, SqL.of eG1⟩, fun L nL => ?_⟩
          refine lc_it (walk_list (K := K) (a := G) (xs := gs.map V.str)) (fun i H' => Same H1 H' ∧ ∃ bs : List Bool, H' L = some (.lst (bs.map V.bl)) ∧ bs.length ≤ i ∧ ((∃ h ∈ gs.take i, ∃ n, Kd H (av h) n ∧ n ≠ "int") → bs.all id = false)) ⟨same_new (Same.refl' _) nL, [], upd_same, Nat.le_refl _, fun ⟨h, hh, _⟩ => by simp at hh⟩ (fun i H' _ ⟨z, _⟩ => SqL.of (z _ _ eG1)) ?_ ?_
          · rintro i x H2 H3 hi ⟨s2, bs, e2, lb, hb⟩ ⟨rfl, hx⟩
            obtain ⟨y, hy, rfl⟩ := get_map hx
            rw [List.length_map] at hi
            have my := sub y (List.mem_of_getElem? hy)
            obtain ⟨n, kn⟩ := kd y my
            refine ⟨rfl, yes_go ?_⟩
            refine ⟨_, rfl, _, rfl, d, av y, rfl, ?_, rfl, rfl, ?_⟩
            · have z := DGet.k (k := Sum.inr y) (s2 _ _ ed1)
              rw [strs_val my] at z
              exact z
            refine ⟨av y, n, rfl, (kn.same s1).same s2, fun H4 s4 => ?_⟩
            refine ⟨_, s4 _ _ e2, by rw [List.length_map]; omega, same_but (s2.trans s4) But.refl.upd nL, bs ++ [isI n], by rw [upd_same, List.map_append]; rfl, by simp; omega, ?_⟩
            rw [take_more hy]
            rintro ⟨h, hh, m, km, ne⟩
            rw [List.all_append]
            rcases List.mem_append.mp hh with hh | hh
            · rw [hb ⟨h, hh, m, km, ne⟩]
              rfl
            · rw [List.mem_singleton.mp hh] at km
              have same : m = n := km.one kn
              have z : isI n = false := by
                rw [← same]
                unfold isI
                rw [beq_eq_false_iff_ne]
                exact ne
              rw [List.all_cons, z]
              simp
          · rintro H2 ⟨s2, bs, e2, lb, hb⟩
            rw [List.length_map, List.take_length] at hb
            refine ⟨L, bs, rfl, SqL.of e2, ?_⟩
            show Q (V.bl (bs.all id)) H2
            rw [hb bad]
            exact q H2 (s1.trans s2)
        · rw [decide_eq_false (fun z => ll (by injection z with z; omega))]
          exact iteT (q H1 s1)
theorem ok_ismoveA {f : Addr} {fd : FuncData} (F : Fun K "is_move" "is_move" sIsm f fd) (T : Bi mg) (M : Mv P w K mg base C) (AJ : Has P w K mg base "are_of_just" 3 ["names", "value"] spJA) (PB : Has P w K mg base "positions_broken" 6 ["moves", "changes"] (spPb2 C R)) :
    FnG P w K mg base CX0 7 f fd ["moves", "value"] (spIsmA C) := by
  refine okG F scIsm (fun vs H Q E h => ?_) (fun cdv A out s H vs Q E g hr h => ?_)
  · obtain ⟨m, x, gs, rs, rfl, _⟩ := h
    rfl
  · obtain ⟨m, x, gs, rs, rfl, hm, fit, jv, q⟩ := h
    have hr6 : Room 6 _ := hr
    have hr3 : Room 3 _ := hr.mono (by decide)
    have hr1 : Room 1 _ := hr.mono (by decide)
    obtain ⟨dx, fs, em, lk⟩ := hm.ins
    refine ⟨_, (pss_one (ps_ret (pe_and (pe_has AJ g hr3 (by rfl) (pa_cons (pe_hasM0 M.goods M.cl g hr1 rfl (pv 0)) (pa_cons (pv 1) pa_nil))) (pe_one (pe_cmpR op_eq (pe_callB call_len_seq (by rfl) T.len PySem.boot_len (pa_cons (pe_has PB g hr6 (by rfl) (pa_cons (pv 0) (pa_cons (pv 1) pa_nil))) pa_nil)) pe_int (nomark _)))))), ?_⟩
    refine ⟨_, rfl, m, dx, fs, rfl, em, lk _ (by decide +kernel) (by decide +kernel), rfl, rfl, m, gs, rs, rfl, hm, fun G H1 n1 e1 s1 => ?_⟩
    exact ⟨_, rfl, rfl, rfl, G, x, gs, rfl, e1, fit.g.l2, jv.same s1, fun H2 s2 => ⟨_, rfl, iteF (q H2 (s1.trans s2))⟩⟩
end
end KM

set_option Elab.async false
set_option linter.all false
set_option maxRecDepth 100000
set_option maxHeartbeats 4000000
set_option exponentiation.threshold 500
namespace KM
open PySem PySem.Spec PyProof.Rows L2 GL
/-! how far told moves go; whole numbers as Ratios -/
theorem fold_bound {B : Nat} : ∀ {l : List Row} {f : Pt → Int} {c : Nat}, (∀ r ∈ l, r.2.2.natAbs ≤ B) → (∀ p, (f p).natAbs ≤ c) → ∀ p, (l.foldl mvStep f p).natAbs ≤ c + l.length * B
  | [], f, c, _, h, p => by simpa using h p
  | r :: l, f, c, hr, h, p => by
    have z := fold_bound (l := l) (f := mvStep f r) (c := c + B) (fun x hx => hr x (List.mem_cons_of_mem _ hx)) (fun q => by
      have h1 := h r.1
      have h2 := h r.2.1
      have h3 := h q
      have h4 := hr r (List.mem_cons_self ..)
      unfold mvStep
      split
      · rw [Int.min_def]
        split <;> omega
      · omega) p
    rw [List.length_cons, Nat.succ_mul]
    show ((r :: l).foldl mvStep f p).natAbs ≤ _
    rw [List.foldl_cons]
    omega
theorem mvI_bound {B n : Nat} {rs : List Row} (hr : ∀ r ∈ rs, r.2.2.natAbs ≤ B) (hn : rs.length ≤ n) : ∀ (i : Nat) (p : Pt), (mvI rs i p).natAbs ≤ i * (n * B)
  | 0, p => by simp [mvI]
  | i + 1, p => by
    have z := fold_bound (f := mvI rs i) hr (mvI_bound hr hn i) p
    have m : rs.length * B ≤ n * B := Nat.mul_le_mul_right B hn
    rw [Nat.succ_mul]
    show (rs.foldl mvStep (mvI rs i) p).natAbs ≤ _
    omega
theorem mvG_le {gs : List Str} {rs : List Row} {B : Nat} (hr : ∀ r ∈ rs, r.2.2.natAbs ≤ B) (hn : rs.length ≤ 24) (l2 : gs.length ≤ 4) (p : Pt) : (mvG gs rs p).natAbs ≤ 240 * B := by
  have a := mvI_bound hr hn (gs.length + 1) p
  have b := mvI_bound hr hn (gs.length + 1) none
  have c : (gs.length + 1) * (24 * B) ≤ 5 * (24 * B) := Nat.mul_le_mul_right _ (by omega)
  show (mvI rs (gs.length + 1) p - mvI rs (gs.length + 1) none).natAbs ≤ _
  generalize (gs.length + 1) * (24 * B) = N at a b c
  omega
theorem mvG_bound {gs : List Str} {rs : List Row} (fit : Fit gs rs) (p : Pt) : (mvG gs rs p).natAbs < 2 ^ 300 :=
  Nat.lt_of_le_of_lt (mvG_le (fun r hr => (fit.r r hr).most) fit.n fit.g.l2 p) (by decide)
theorem bd_int {i : Int} {k : Nat} (hk : 0 < k) (h : i.natAbs < 2 ^ k) : Bd k (i : Rat) :=
  ⟨by rw [Rat.num_intCast]; exact h, by rw [Rat.den_intCast]; exact Nat.one_lt_two_pow (by omega)⟩
theorem keptQ_int {g : Pt → Int} {rs : List Row} : KeptQ (fun p => (g p : Rat)) rs ↔ ∀ c ∈ rs, g c.1 - g c.2.1 ≤ c.2.2 := by
  have z : ∀ a b c : Int, ((a : Rat) - (b : Rat) ≤ (c : Rat)) ↔ a - b ≤ c := fun a b c => by
    rw [← Rat.intCast_sub, Rat.intCast_le_intCast]
  exact ⟨fun h c hc => (z _ _ _).mp (h c hc), fun h c hc => (z _ _ _).mpr (h c hc)⟩
theorem numD_int {R : Addr} {H : Hp} {d : Addr} {hs : List Str} {g : Pt → Int} (e : H d = some (.dK (chgD hs g))) (b : ∀ p, (g p).natAbs < 2 ^ 300) : NumD R H d hs fun p => (g p : Rat) :=
  ⟨fun x => .int (g (some x)), e, fun x _ => ⟨.inl ⟨_, rfl, rfl⟩, (bd_int (by decide) (b (some x))).up (by decide)⟩⟩
end KM

set_option Elab.async false
set_option linter.all false
set_option maxRecDepth 100000
set_option maxHeartbeats 4000000
namespace KM
open PySem PySem.Spec PyProof.Rows L2 GL
/-! told moves and rings, by the law -/
abbrev sMr : Stmt := top 68
abbrev sRr : Stmt := top 69
abbrev nMr : List Str := ["_law_moves", "_law_goods", "_law_rows", "_law_turn", "_law_told", "_law_good"]
abbrev nRR : List Str := ["_law_moves", "_law_rows", "_law_due", "_law_turn", "_law_told"]
theorem scMr : FnScope nMr ["_law_moves", "_law_goods", "_law_rows"] (defScope sMr) := ⟨rfl, rfl, rfl, by decide +kernel, rfl, by decide +kernel, by decide +kernel⟩
theorem scRR : FnScope nRR ["_law_moves", "_law_rows", "_law_due"] (defScope sRr) := ⟨rfl, rfl, rfl, by decide +kernel, rfl, by decide +kernel, by decide +kernel⟩
def spMr (C : Addr) : Sp := fun vs H Q _ => ∃ (m G B : Addr) (gs : List Str) (rs : List Row) (as : List Addr), vs = [.ref m, .ref G, .ref B] ∧ MovesAt C H m gs rs ∧ Fit gs rs ∧ H G = some (.lst (gs.map V.str)) ∧ H B = some (.lst (as.map V.ref)) ∧ RowsIn H as rs ∧ ¬ KN.Ring rs ∧ ∀ H', Same H H' → Q (.bl true) H'
def spRR (C : Addr) : Sp := fun vs H Q _ => ∃ (m B U : Addr) (gs : List Str) (rs : List Row) (l : List Nat), vs = [.ref m, .ref B, .ref U] ∧ MovesAt C H m gs rs ∧ Fit gs rs ∧ H U = some (.lst (l.map nI)) ∧ KN.RingL rs (some l) ∧ l.length ≤ 5 ∧ ∀ H', Same H H' → Q (.bl true) H'
theorem rl_lt {rs : List Row} {l : List Nat} (h : KN.RingL rs (some l)) : ∀ k ∈ l, k < rs.length := by
  obtain ⟨⟨a, s, w, _⟩, _⟩ := h
  exact w.lt
theorem rl_nn {rs : List Row} {l : List Nat} (h : KN.RingL rs (some l)) : l ≠ [] := by
  obtain ⟨⟨a, s, w, n⟩, _⟩ := h
  intro z
  subst z
  cases w
  omega
section
variable {P : Program} {w : World} {K : PySem.W.Frag} {mg : Str → Option Value} {base : Heap} {C R : Addr}
theorem ok_moveright {f : Addr} {fd : FuncData} (F : Fun K "_law_move_right" "_law_move_right" sMr f fd) (T : Bi mg) (SM : Has P w K mg base "some_move" 5 ["moves"] (spSmv C)) (SMK : HasK P w K mg base "some_move" 5 ["moves"] (spSmv C) ["moves"] (fun _ zs => zs))
    (KP : Has P w K mg base "_law_keeps" 1 ["_law_rows", "_law_changes"] spKp) (IM : Has P w K mg base "is_move" 7 ["moves", "value"] (spIsm2 C R)) (BR : Has P w K mg base "broken" 7 ["moves", "move"] (spPb2 C R)) (RG : Has P w K mg base "ring" 5 ["moves"] (spRng C)) :
    FnG P w K mg base CX0 8 f fd ["_law_moves", "_law_goods", "_law_rows"] (spMr C) := by
  refine okG F scMr (fun vs H Q E h => ?_) (fun cdv A out s H vs Q E g hr h => ?_)
  · obtain ⟨m, G, B, gs, rs, as, rfl, _⟩ := h
    rfl
  · obtain ⟨m, G, B, gs, rs, as, rfl, hm, fit, eG, eB, rows, nr, q⟩ := h
    have hr7 : Room 7 _ := hr
    have hr5 : Room 5 _ := hr.mono (by decide)
    have hr1 : Room 1 _ := hr.mono (by decide)
    have hu := hr.units
    have szl := sizeLine_eq
    refine ⟨_, (pss_cons (ps_for PassesOwn.never rfl (pi_range1 (by rfl) T.range (pa_cons pe_int pa_nil)) (pg_name (i := 3) scMr.nd rfl (.inl rfl))
      (pss_cons (ps_set (i := 4) scMr.nd rfl (.inr rfl) (pe_ifExp (pt_cmpR op_eq (pv 3) pe_int (nomark _)) (pe_has SM g hr5 (by rfl) (pa_cons (pv 0) pa_nil)) (pe_hasK SMK g hr5 (by rfl) (pk_cons (pv 0) pk_nil))))
      (pss_cons (ps_if (PW.pt (pw_or (pt_cmpR (op_neD hu) (pe_callTy (call_listDL (by rfl)) (by rfl) T.list (by decide +kernel) (pa_cons (pv 4) pa_nil)) (pv 1) (nomark _)) (pw_or1 (pt_not (pt_val (pe_callB (cr_all (by rfl)) (by rfl) T.all (by decide +kernel) (pa_cons (pe_lc (own := [("_law_good", 5)]) (g := gName 5) (tt := tYes) (te := tCB (rIsi K) (tCons (tDGet (tVar 4) (tVar 5)) (tCons (tC (.ty "int")) tNil))) (by rfl) scMr.nd (pi_list (pv 1)) (blkOk_by (own := [("_law_good", 5)]) (N := nMr) (sc := defScope sMr) (by decide +kernel)) (fun _ _ _ _ _ => by exact (pg_name (i := 5) scMr.nd rfl (.inl rfl))) (fun _ _ _ _ _ => pts_nil) (fun _ _ _ _ _ => by exact (pe_callB call_isi (by rfl) T.isinstance (by decide +kernel) (pa_cons (pe_dget (by have := hr.units; exact Nat.lt_of_le_of_lt (Nat.add_le_add_left (by decide) _) this) (pv 4) (pv 5) (fun _ _ => rfl)) (pa_cons (pe_bltn (v := .ty "int") (u := .type "int") (by rfl) T.int (by decide +kernel) rfl) pa_nil))))) pa_nil))))))) (pss_one (ps_ret pe_bl)) pss_nil)
      (pss_cons (ps_if (PW.pt (pw_or (pt_not (pt_val (pe_has KP g hr1 (by rfl) (pa_cons (pv 2) (pa_cons (pv 4) pa_nil))))) (pw_or (pt_cmpR op_notBl (pe_has IM g hr7 (by rfl) (pa_cons (pv 0) (pa_cons (pv 4) pa_nil))) pe_bl (nomark _)) (pw_or1 (pt_cmpR (op_neD hu) (pe_has BR g hr7 (by rfl) (pa_cons (pv 0) (pa_cons (pv 4) pa_nil))) (pe_lstL pa_nil) (nomark _)))))) (pss_one (ps_ret pe_bl)) pss_nil)
      (pss_one (ps_expr (pe_dclear (pv 4))))))))
      (pss_one (ps_ret (pe_cmpR op_isN (pe_has RG g hr5 (by rfl) (pa_cons (pv 0) pa_nil)) pe_non (nomark _))))), ?_⟩
    refine ⟨2, rfl, by decide, by decide, ?_⟩
    refine for_range (n := 2) (fun i σ H' => ∃ x3 x4 x5, σ = [some (.ref m), some (.ref G), some (.ref B), x3, x4, x5] ∧ Same H H') ?_ ?_ ?_
    · exact ⟨_, _, _, rfl, Same.refl' _⟩
    · rintro i σ Hc hi ⟨x3, x4, x5, rfl, sc⟩
      refine ⟨_, rfl, rfl, _, rfl, ?_⟩
      refine if_join (fun v Hx => ∃ d, v = .ref d ∧ Hc d = none ∧ Hx d = some (.dK (chgD gs (mvG gs rs))) ∧ mvG gs rs none = 0 ∧ (∀ c ∈ rs, mvG gs rs c.1 - mvG gs rs c.2.1 ≤ c.2.2) ∧ Same Hc Hx) ?_ ?_ ?_
      · rintro v H1 ⟨d, rfl, nd, ed, g0, keep, s1⟩
        have S1 := sc.trans s1
        refine ⟨_, rfl, ?_⟩
        refine ⟨d, _, rfl, .inl ed, fun L1 H2 n2 e2 s2 => ?_⟩
        have e2 : H2 L1 = some (.lst (gs.map V.str)) := by
          rw [e2]
          unfold chgD
          rw [List.map_map]
          rfl
        have S2 := S1.trans s2
        refine ⟨_, rfl, gsD gs, gsD gs, .lst (SqL.of e2) (dp_strs gs), .lst (SqL.of (S2 _ _ eG)) (dp_strs gs), shaped_gs fit.g, shaped_gs fit.g, _, rfl, ?_⟩
        rw [eqv_gs, decide_eq_true rfl]
        refine iteF ?_
        refine ⟨_, rfl, G, rfl, ⟨_, SqL.of (S2 _ _ eG)⟩, fun U nU => ?_⟩
        have ed2 := s2 _ _ ed
        refine lc_it (walk_list (K := K) (a := G) (xs := gs.map V.str)) (fun i H' => Same H2 H' ∧ H' U = some (.lst ((List.replicate i true).map V.bl))) ⟨same_new (Same.refl' _) nU, upd_same⟩ (fun i H' _ ⟨z, _⟩ => SqL.of (z _ _ (S2 _ _ eG))) ?_ ?_
        · rintro j x H3 H4 hj ⟨s3, e3⟩ ⟨rfl, hx⟩
          obtain ⟨y, hy, rfl⟩ := get_map hx
          rw [List.length_map] at hj
          refine ⟨rfl, yes_go ?_⟩
          refine ⟨_, rfl, _, rfl, d, .int (mvG gs rs (some y)), rfl, ?_, ?_⟩
          · have z := DGet.k (k := Sum.inr y) (s3 _ _ ed2)
            rw [show chgD gs (mvG gs rs) = gs.map fun x => ((Sum.inr x : L2.Key), V.int (mvG gs rs (some x))) from rfl, strs_val (f := fun x => V.int (mvG gs rs (some x))) (List.mem_of_getElem? hy)] at z
            exact z
          refine ⟨.int _, .ty "int", .type "int", .type "int", true, rfl, .ty "int", .base (.int _), kit_ty (by decide +kernel), ?_⟩
          refine ⟨_, e3, by rw [List.length_map, List.length_replicate]; exact small1000 (by have := fit.g.l2; omega), same_but s3 But.refl.upd nU, ?_⟩
          rw [upd_same, List.replicate_succ', List.map_append]
          rfl
        rintro H3 ⟨s3, e3⟩
        refine ⟨U, _, rfl, SqL.of e3, _, rfl, ?_⟩
        have z : (List.replicate (gs.map V.str).length true).all id = true := by simp
        rw [z]
        refine iteF ?_
        have ed3 := s3 _ _ ed2
        have S3 := S2.trans s3
        have nd0 := sc.free nd
        have bnd := mvG_bound fit
        -- keeps, is_move, broken
        refine ⟨_, rfl, _, rfl, rfl, rfl, B, d, gs, gs, rs, as, mvG gs rs, rfl, S3 _ _ eB, rows_same rows S3, fit.r, by have := fit.n; omega, ed3, List.Perm.refl _, fit.g.l2, g0, fun H4 s4 => ⟨_, rfl, ?_⟩⟩
        rw [decide_eq_true keep]
        refine iteF ?_
        have S4 := S3.trans s4
        have ed4 := s4 _ _ ed3
        refine ⟨_, rfl, _, rfl, rfl, rfl, m, d, gs, rs, gs, fun p => (mvG gs rs p : Rat), rfl, hm.same S4, fit, numD_int ed4 bnd, List.Perm.refl _, by dsimp only; rw [g0]; rfl, fun b H5 hb s5 => ?_⟩
        rw [hb.mpr (keptQ_int.mpr keep)]
        refine ⟨_, _, rfl, rfl, _, rfl, iteF ?_⟩
        have S5 := S4.trans s5
        have ed5 := s5 _ _ ed4
        refine ⟨_, rfl, _, rfl, rfl, rfl, m, d, gs, rs, gs, fun p => (mvG gs rs p : Rat), rfl, hm.same S5, fit, numD_int ed5 bnd, List.Perm.refl _, by dsimp only; rw [g0]; rfl, fun L2 H6 n6 e6 s6 => ?_⟩
        rw [brk_none.mpr (keptQ_int.mpr keep)] at e6
        refine ⟨by show 0 ≤ sizeLine; omega, fun L3 H7 n7 e7 s7 => ?_⟩
        refine ⟨natsD [], natsD [], dp_nats (SqL.of (s7 _ _ e6)), dp_nats (SqL.of e7), shaped_nats _, shaped_nats _, _, rfl, ?_⟩
        rw [eqv_nats, decide_eq_true rfl]
        refine iteF ?_
        have S7 := (S5.trans s6).trans s7
        have ed7 := (s6.trans s7) _ _ ed5
        refine ⟨_, rfl, .inr (.inr (.inl ⟨rfl, .inl ⟨_, ed7⟩⟩)), d, _, rfl, rfl, ed7, ?_⟩
        exact ⟨_, _, _, rfl, same_but S7 But.refl.upd nd0⟩
      · intro hQ
        refine ⟨_, rfl, rfl, rfl, m, gs, rs, rfl, hm.same sc, fit, fun z => absurd z nr, fun _ d H1 nd ed g0 keep s1 => hQ _ _ ⟨d, rfl, nd, ed, g0, keep, s1⟩⟩
      · intro hQ
        refine ⟨_, rfl, rfl, rfl, m, gs, rs, rfl, hm.same sc, fit, fun z => absurd z nr, fun _ d H1 nd ed g0 keep s1 => hQ _ _ ⟨d, rfl, nd, ed, g0, keep, s1⟩⟩
    · rintro σ Hc ⟨x3, x4, x5, rfl, sc⟩
      refine ⟨_, rfl, rfl, rfl, m, gs, rs, rfl, hm.same sc, fit, fun L H1 l rl _ _ _ _ => absurd (rl.ring.mp (by simp)) nr, fun _ H1 s1 => ⟨rfl, q H1 (sc.trans s1)⟩⟩
theorem ok_ringright {f : Addr} {fd : FuncData} (F : Fun K "_law_ring_right" "_law_ring_right" sRr f fd) (T : Bi mg) (RG : Has P w K mg base "ring" 5 ["moves"] (spRng C)) (RGK : HasK P w K mg base "ring" 5 ["moves"] (spRng C) ["moves"] (fun _ zs => zs)) (SM : Has P w K mg base "some_move" 5 ["moves"] (spSmv C))
    (IR : Has P w K mg base "is_ring" 3 ["moves", "value"] (spIr C)) : FnG P w K mg base CX0 6 f fd ["_law_moves", "_law_rows", "_law_due"] (spRR C) := by
  refine okG F scRR (fun vs H Q E h => ?_) (fun cdv A out s H vs Q E g hr h => ?_)
  · obtain ⟨m, B, U, gs, rs, l, rfl, _⟩ := h
    rfl
  · obtain ⟨m, B, U, gs, rs, l, rfl, hm, fit, eU, rl, l5, q⟩ := h
    have hr5 : Room 5 _ := hr
    have hr3 : Room 3 _ := hr.mono (by decide)
    have hu := hr.units
    have szl := sizeLine_eq
    have ln := fit.n
    have sn : Shows (natsD l) := (sh_nats (n := 5) (fun k hk => by have := rl_lt rl k hk; omega) l5).shows (by decide) (by decide)
    refine ⟨_, (pss_cons (ps_for PassesOwn.never rfl (pi_range1 (by rfl) T.range (pa_cons pe_int pa_nil)) (pg_name (i := 3) scRR.nd rfl (.inl rfl))
      (pss_cons (ps_set (i := 4) scRR.nd rfl (.inl rfl) (pe_ifExp (pt_cmpR op_eq (pv 3) pe_int (nomark _)) (pe_has RG g hr5 (by rfl) (pa_cons (pv 0) pa_nil)) (pe_hasK RGK g hr5 (by rfl) (pk_cons (pv 0) pk_nil))))
      (pss_cons (ps_if (PW.pt (pw_or (pt_cmpR op_ne (pe_callB (call_repr_D g hu) (by rfl) T.repr (by decide +kernel) (pa_cons (pv 4) pa_nil)) (pe_callB (call_repr_D g hu) (by rfl) T.repr (by decide +kernel) (pa_cons (pv 2) pa_nil)) (nomark _)) (pw_or (pt_cmpR op_notBl (pe_has IR g hr3 (by rfl) (pa_cons (pv 0) (pa_cons (pv 4) pa_nil))) pe_bl (nomark _)) (pw_or1 (pt_cmpR op_notBl (pe_has IR g hr3 (by rfl) (pa_cons (pv 0) (pa_cons (pe_callTy call_tupL (by rfl) T.tuple (by decide +kernel) (pa_cons (pv 4) pa_nil)) pa_nil))) pe_bl (nomark _)))))) (pss_one (ps_ret pe_bl)) pss_nil)
      (pss_cons (ps_expr (pe_bm0 PySem.F.plainAttrs_list PySem.F.slot_list_reverse PySem.F.type_list_reverse mt_revL (pv 4)))
      (pss_one (ps_expr (pe_bm PySem.F.plainAttrs_list PySem.F.slot_list_append PySem.F.type_list_append mt_appL (pv 4) (pa_cons pe_non pa_nil))))))))
      (pss_one (ps_ret (pe_cmpR op_isN (pe_has SM g hr5 (by rfl) (pa_cons (pv 0) pa_nil)) pe_non (nomark _))))), ?_⟩
    refine ⟨2, rfl, by decide, by decide, ?_⟩
    refine for_range (n := 2) (fun i σ H' => ∃ x3 x4, σ = [some (.ref m), some (.ref B), some (.ref U), x3, x4] ∧ Same H H') ?_ ?_ ?_
    · exact ⟨_, _, rfl, Same.refl' _⟩
    · rintro i σ Hc hi ⟨x3, x4, rfl, sc⟩
      refine ⟨_, rfl, rfl, _, rfl, ?_⟩
      refine if_join (fun v Hx => ∃ L, v = .ref L ∧ Hc L = none ∧ Hx L = some (.lst (l.map nI)) ∧ Same Hc Hx) ?_ ?_ ?_
      · rintro v H1 ⟨L, rfl, nL, eL, s1⟩
        have S1 := sc.trans s1
        refine ⟨_, rfl, L, _, rfl, dp_nats (SqL.of eL), sn, _, rfl, U, _, rfl, dp_nats (SqL.of (S1 _ _ eU)), sn, rfl, _, rfl, ?_⟩
        rw [decide_eq_true rfl]
        refine iteF ?_
        refine ⟨_, rfl, _, rfl, rfl, rfl, m, .ref L, gs, rs, true, rfl, hm.same S1, fit, .pos (.inl eL) (rl_nn rl) (rl_lt rl) (by omega) ⟨fun _ => rl.1, fun _ => rfl⟩, fun H2 s2 => ?_⟩
        refine ⟨_, _, rfl, rfl, _, rfl, iteF ?_⟩
        have eL2 := s2 _ _ eL
        refine ⟨_, rfl, _, rfl, L, _, rfl, SqL.of eL2, fun t H3 n3 e3 s3 => ?_⟩
        have S3 := (S1.trans s2).trans s3
        refine ⟨rfl, rfl, m, .ref t, gs, rs, true, rfl, hm.same S3, fit, .pos (.inr e3) (rl_nn rl) (rl_lt rl) (by omega) ⟨fun _ => rl.1, fun _ => rfl⟩, fun H4 s4 => ?_⟩
        refine ⟨_, _, rfl, rfl, _, rfl, iteF ?_⟩
        have eL4 := (s3.trans s4) _ _ eL2
        have S4 := S3.trans s4
        refine ⟨_, rfl, .inl ⟨rfl, _, SqL.of eL4⟩, L, _, rfl, rfl, eL4, fun H5 e5 b5 => ?_⟩
        refine ⟨_, rfl, .inl ⟨rfl, _, SqL.of e5⟩, L, _, .non, rfl, rfl, e5, by rw [List.length_reverse, List.length_map]; omega, fun H6 e6 b6 => ?_⟩
        exact ⟨_, _, rfl, same_but S4 (b5.trans b6) (sc.free nL)⟩
      · intro hQ
        refine ⟨_, rfl, rfl, rfl, m, gs, rs, rfl, hm.same sc, fit, fun L H1 l' rl' _ nL eL s1 => hQ _ _ ⟨L, rfl, nL, ?_, s1⟩, fun rn => absurd (rl.ring.mp (by simp)) rn⟩
        rw [show l = l' from Option.some.inj (rl.one rl')]
        exact eL
      · intro hQ
        refine ⟨_, rfl, rfl, rfl, m, gs, rs, rfl, hm.same sc, fit, fun L H1 l' rl' _ nL eL s1 => hQ _ _ ⟨L, rfl, nL, ?_, s1⟩, fun rn => absurd (rl.ring.mp (by simp)) rn⟩
        rw [show l = l' from Option.some.inj (rl.one rl')]
        exact eL
    · rintro σ Hc ⟨x3, x4, rfl, sc⟩
      exact ⟨_, rfl, rfl, rfl, m, gs, rs, rfl, hm.same sc, fit, fun _ H1 s1 => ⟨rfl, q H1 (sc.trans s1)⟩, fun nn => absurd (rl.ring.mp (by simp)) nn⟩
end
end KM

set_option Elab.async false
set_option linter.all false
set_option maxRecDepth 100000
set_option maxHeartbeats 4000000
namespace GL
open PySem PySem.Spec PyProof.Rows L2
/-! repr of truth values, of dicts from texts to numbers; dicts of pairs, the heap as a letter -/
def rReprBl : List V → Hp → VK → Prop := fun xs H Q => ∃ b, xs = [.bl b] ∧ Q (.str (PyData.bool b).shown) H
theorem call_repr_bl {X : Cx} (g : Clr X.A) (hu : X.A.units + 64 < cLine) : CallR X (.builtin "repr") rReprBl := by
  intro pins s σ H vs us Q I r h
  obtain ⟨b, rfl, q⟩ := h
  cases r with
  | cons r1 r2 =>
    cases r2
    have r1' : _ = Value.bool b := r1
    subst r1'
    refine PySem.P.repr_of_bool ?_
    exact ⟨.str (PyData.bool b).shown, H, I.tok _, ⟨_, by cases b <;> rfl⟩, q⟩
/-- a dict from texts to numbers, as data -/
def kiD (l : List (Str × Int)) : PyData := .dict (l.map fun p => (.str p.1, .int p.2))
def kiK (l : List (Str × Int)) : List (L2.Key × V) := l.map fun p => (Sum.inr p.1, V.int p.2)
def rReprKI : List V → Hp → VK → Prop := fun xs H Q => ∃ a l, xs = [.ref a] ∧ H a = some (.dK (kiK l)) ∧ (kiD l).showable = true ∧ (kiD l).shown.length ≤ sizeLine ∧ (kiD l).depth ≤ 8 ∧ ∀ H', Same H H' → Q (.str (kiD l).shown) H'
theorem ki_pairs {P : Program} {w : World} {h : Heap} : ∀ {l : List (Str × Int)} {vs : List (L2.Key × Value)} {es : List DictEntry}, KV (kiK l) vs → PySem.Pairs (mixKind P w) es vs →
    ReadsAll h (es.map (·.key)) (l.map fun p => PyData.str p.1) [] ∧ ReadsAll h (es.map (·.val)) (l.map fun p => PyData.int p.2) []
  | [], vs, es, kv, pr => by
    cases kv
    cases pr
    exact ⟨.nil, .nil⟩
  | p :: l, vs, es, kv, pr => by
    cases kv with
    | cons a t =>
      cases pr with
      | @cons e _ _ _ hk hv pr =>
        obtain ⟨r1, r2⟩ := ki_pairs (h := h) t pr
        obtain ⟨e1, e2⟩ := a
        rw [← e1] at hk
        have hk : keyIs (Sum.inr p.1) e.key = true := hk
        rcases keyIs_shape hk with ⟨i, tk, e3, _⟩ | ⟨x, tk, e3, ek⟩
        · cases e3
        · have ex : p.1 = x := by injection e3
          obtain ⟨tv, ev⟩ : ∃ t, _ = Value.int p.2 t := e2
          refine ⟨?_, ?_⟩
          · rw [List.map_cons, List.map_cons, ek, ← ex]
            exact .cons (as := []) (.str _ _) r1
          · rw [List.map_cons, List.map_cons, hv, ev]
            exact .cons (as := []) (.int _ _) r2
theorem call_repr_KI {X : Cx} (g : Clr X.A) (hu : X.A.units + 64 < cLine) : CallR X (.builtin "repr") rReprKI := by
  intro pins s σ H vs us Q I r h
  obtain ⟨a, l, rfl, ea, sh, fit, low, q⟩ := h
  cases r with
  | cons r1 r2 =>
    cases r2
    cases r1
    have ok : ObjOk X.prog X.w H s.heap a (.dK (kiK l)) := I.hok a _ ea
    obtain ⟨_, hsys, vs, kv, o, es, ep, h1, h2, h3, _, h5, _⟩ := ok
    obtain ⟨k1, k2⟩ := ki_pairs (h := s.heap) kv h5
    have e1 : l.map (fun p => PyData.str p.1) = (l.map fun p => ((PyData.str p.1, PyData.int p.2) : PyData × PyData)).map (·.1) := by rw [List.map_map]; rfl
    have e2 : l.map (fun p => PyData.int p.2) = (l.map fun p => ((PyData.str p.1, PyData.int p.2) : PyData × PyData)).map (·.2) := by rw [List.map_map]; rfl
    rw [e1] at k1
    rw [e2] at k2
    have z : Reads s.heap (.ref a) (kiD l) (a :: [] ++ []) := .dict h1 h2.1 h3 k1 k2
    refine repr_of_reads' z sh (fun _ m => ?_) g ?_ (fun _ _ e => e) ?_ fit
    · have : sysModules = a := by simpa using m
      rw [this] at hsys
      simp at hsys
    · omega
    · intro h' u tk hk
      exact ⟨.str (kiD l).shown, H, I.kept hk, ⟨u, rfl⟩, q H (Same.refl' _)⟩
def rDictK (K : PySem.W.Frag) : List V → Hp → VK → Prop := fun xs H Q => ∃ (a : Addr) (ps : List Addr) (kvs : List (L2.Key × V)), xs = [.ref a] ∧ SqL K H a (ps.map V.ref) ∧ Paired (fun p kv => SqT K H p [kV kv.1, kv.2]) ps kvs ∧ NewK H (.dK (mergeK [] kvs)) Q
theorem call_dictK {X : Cx} (hc : X.calm = true) : CallR X (.type "dict") (rDictK X.K) := by
  intro pins s σ H vs us Q I r h
  obtain ⟨a, ps, kvs, e1, e2, e3, q⟩ := h
  exact call_dictP hc pins s σ H vs us Q I r ⟨a, ps, kvs, e1, e2, e3, q.go⟩
theorem merge_puts (kvs : List (L2.Key × V)) : ∀ acc, mergeK acc kvs = puts acc kvs := by
  induction kvs with
  | nil => intro acc; rfl
  | cons x r ih => intro acc; exact ih _
/-- keys that are unlike: the dict has just the pairs -/
theorem puts_nd {κ : Type} [DecidableEq κ] : ∀ (kvs acc : List (κ × V)), ((acc ++ kvs).map (·.1)).Nodup → puts acc kvs = acc ++ kvs
  | [], acc, _ => by rw [List.append_nil]; rfl
  | x :: r, acc, h => by
    have e : putK acc x.1 x.2 = acc ++ [x] := by
      unfold putK
      rw [if_neg]
      intro z
      obtain ⟨y, hy, ey⟩ := List.any_eq_true.mp z
      rw [List.map_append, List.map_cons] at h
      have := (List.nodup_append.mp h).2.2 y.1 (List.mem_map.mpr ⟨y, hy, rfl⟩) x.1 (List.mem_cons_self ..)
      exact this (of_decide_eq_true ey)
    show puts (putK acc x.1 x.2) r = _
    rw [e, puts_nd r (acc ++ [x]) (by rw [List.append_assoc]; exact h), List.append_assoc]
    rfl
end GL

set_option Elab.async false
set_option linter.all false
set_option maxRecDepth 100000
set_option maxHeartbeats 4000000
set_option exponentiation.threshold 500
namespace KM
open PySem PySem.Spec PyProof.Rows L2 GL
/-! repr of Ratios of small worth, of dicts of such or of numbers -/
def reprQ (q : Rat) : Str := ("Ratio(" : Str) ++ (toString q.num : Str) ++ (", " : Str) ++ (toString (q.den : Int) : Str) ++ (")" : Str)
structure Sml (q : Rat) : Prop where
  t : q.num.natAbs ≤ 100000
  b : ((q.den : Nat) : Int).natAbs ≤ 100000
def spQr (R : Addr) : Sp := fun vs H Q _ => ∃ (x : Addr) (q : Rat), vs = [.ref x] ∧ RatQ R H x q ∧ Sml q ∧ ∀ H', Same H H' → Q (.str (reprQ q)) H'
section
variable {P : Program} {w : World} {K : PySem.W.Frag} {mg : Str → Option Value} {base : Heap} {C R : Addr}
theorem ok_qrepr {f : Addr} {fd : FuncData} (F : Fun K "__repr__" "Ratio.__repr__" (rm 19) f fd) (T : Bi mg) (C : Rc K mg R) : FnOk P w K mg base CX0 1 f fd ["self"] (spQr R) := by
  refine F.ok scRr (fun vs H Q E h => ?_) (fun cdv A out s H vs Q E hr h => ?_)
  · obtain ⟨x, i, rfl, _⟩ := h
    rfl
  · obtain ⟨x, i, rfl, ⟨dx, ex⟩, hi, q⟩ := h
    obtain ⟨a1, a2⟩ := int_small hi.t
    obtain ⟨b1, b2⟩ := int_small hi.b
    have sz := sizeLine_eq
    have l1 : ("Ratio(" : Str).length = 6 := rfl
    have l2 : (", " : Str).length = 2 := rfl
    have l3 : (")" : Str).length = 1 := rfl
    have l0 : (Str.empty).length = 0 := rfl
    have k0 : Str.empty ++ ("Ratio(" : Str) = ("Ratio(" : Str) := rfl
    refine ⟨_, (pss_one (ps_ret (pe_joined (.cons pe_str (.cons (pe_fmt (pe_fld (pv 0) rfl)) (.cons pe_str (.cons (pe_fmt (pe_fld (pv 0) rfl)) (.cons pe_str .nil)))))))), ?_⟩
    refine ⟨_, rfl, by rw [k0]; omega, ?_⟩
    rw [k0]
    refine ⟨_, rfl, x, R, dx, _, _, rfl, ex, C.cl, C.nT, fq_t, .inr ⟨i.num, rfl, a1, _, rfl, by rw [Str.length_append]; omega, ?_⟩⟩
    refine ⟨_, rfl, by rw [Str.length_append, Str.length_append]; omega, ?_⟩
    refine ⟨_, rfl, x, R, dx, _, _, rfl, ex, C.cl, C.nB, fq_b, .inr ⟨_, rfl, b1, _, rfl, by simp only [Str.length_append]; omega, ?_⟩⟩
    refine ⟨_, rfl, by simp only [Str.length_append]; omega, ?_⟩
    exact q H (Same.refl' _)
end
def rReprG (R : Addr) : List V → Hp → VK → Prop := fun vs H Q => rReprKI vs H Q ∨ rReprRU R (spQr R) vs H Q
theorem cr_reprG {X : Cx} {k : Nat} {R : Addr} (h : HasR X.prog X.w X.K X.mg X.base R k (spQr R)) (g : Clr X.A) (hr : Room (k + 3) X.A) (hu : X.A.units + 64 < cLine) : CallR X (.builtin "repr") (rReprG R) := by
  intro pins s σ H vs us Q I r z
  rcases z with z | z
  · exact call_repr_KI g hu pins s σ H vs us Q I r z
  · exact call_repr_RU h g hr pins s σ H vs us Q I r z
def ratTQ (gs : List Str) (g : Pt → Rat) : List Str := gs.map fun x => reprText x ++ (": " : Str) ++ reprQ (g (some x))
theorem ratq_shows {R : Addr} {H : Hp} {d : Addr} {o : HO} {g : Pt → Rat} (hd : H d = some o) (no : ∀ C dx fs, o ≠ .ins C dx fs) {ad : Str → Addr} {u : HO} : ∀ {gs : List Str}, (∀ x ∈ gs, x ∈ names) → (∀ x ∈ gs, RatQ R H (ad x) (g (some x)) ∧ Sml (g (some x))) →
    ShowsE R (spQr R) (upd H d u) (gs.map fun x => ((Sum.inr x : L2.Key), V.ref (ad x))) (ratTQ gs g)
  | [], _, _ => .nil
  | x :: r, hn, h => by
    obtain ⟨⟨dx, e⟩, sm⟩ := h x (List.mem_cons_self ..)
    have ne : ad x ≠ d := ne_of e hd (no _ _ _ ·.symm)
    have e' : (upd H d u) (ad x) = some (.ins R dx (fq (g (some x)))) := by rw [upd_ne ne]; exact e
    have l5 := name_len x (hn x (List.mem_cons_self ..))
    refine .cons (by rw [sizeLine_eq]; omega) e' (fun H' Q s q => ⟨ad x, g (some x), rfl, ⟨dx, s _ _ e'⟩, sm, q⟩) (ratq_shows hd no (fun y hy => hn y (List.mem_cons_of_mem _ hy)) fun y hy => h y (List.mem_cons_of_mem _ hy))
theorem ratq_len {gs : List Str} {g : Pt → Rat} (hn : ∀ x ∈ gs, x ∈ names) (l4 : gs.length ≤ 4) (hb : ∀ x ∈ gs, Sml (g (some x))) : (dictText (ratTQ gs g)).length ≤ sizeLine := by
  have l := dictText_len_le (ratTQ gs g)
  have s := sum_le (fun t : Str => t.length) 40 (ratTQ gs g) fun t ht => by
    obtain ⟨x, hx, rfl⟩ := List.mem_map.mp ht
    have l5 := name_len x (hn x hx)
    obtain ⟨_, a2⟩ := int_small (hb x hx).t
    obtain ⟨_, b2⟩ := int_small (hb x hx).b
    have l1 : ("Ratio(" : Str).length = 6 := rfl
    have l2 : (", " : Str).length = 2 := rfl
    have l3 : (")" : Str).length = 1 := rfl
    have l4 : (": " : Str).length = 2 := rfl
    unfold reprQ
    simp only [Str.length_append]
    omega
  have n : (ratTQ gs g).length = gs.length := List.length_map ..
  rw [sizeLine_eq]
  omega
theorem kiD_showable {gi : Pt → Int} : ∀ {hs : List Str}, (∀ x ∈ hs, (gi (some x)).natAbs ≤ 1000) → (kiD (hs.map fun x => (x, gi (some x)))).showable = true
  | [], _ => rfl
  | x :: r, h => by
    have ih := kiD_showable (gi := gi) (hs := r) fun y hy => h y (List.mem_cons_of_mem _ hy)
    have e : PyData.showableKv ((r.map fun x => (x, gi (some x))).map fun p => (PyData.str p.1, PyData.int p.2)) = true := ih
    show (true && (PyData.int (gi (some x))).showable && PyData.showableKv ((r.map fun x => (x, gi (some x))).map fun p => (PyData.str p.1, PyData.int p.2))) = true
    rw [e, (sh_int (Nat.le_trans (h x (List.mem_cons_self ..)) (by decide))).ok]
    rfl
theorem kiD_kv {gi : Pt → Int} : ∀ {hs : List Str}, PyData.shownKv ((hs.map fun x => (x, gi (some x))).map fun p => (PyData.str p.1, PyData.int p.2)) = hs.map fun x => reprText x ++ (": " : Str) ++ (PyData.int (gi (some x))).shown
  | [] => rfl
  | x :: r => by
    show (reprText x ++ ": " ++ (PyData.int (gi (some x))).shown) :: PyData.shownKv ((r.map fun x => (x, gi (some x))).map fun p => (PyData.str p.1, PyData.int p.2)) = _
    rw [kiD_kv]
    rfl
theorem kiD_len {gi : Pt → Int} {hs : List Str} (hn : ∀ x ∈ hs, x ∈ names) (l4 : hs.length ≤ 4) (h : ∀ x ∈ hs, (gi (some x)).natAbs ≤ 1000) : (kiD (hs.map fun x => (x, gi (some x)))).shown.length ≤ sizeLine := by
  show (dictText (PyData.shownKv ((hs.map fun x => (x, gi (some x))).map fun p => (PyData.str p.1, PyData.int p.2)))).length ≤ sizeLine
  rw [kiD_kv]
  have l := dictText_len_le (hs.map fun x => reprText x ++ (": " : Str) ++ (PyData.int (gi (some x))).shown)
  have s := sum_le (fun t : Str => t.length) 60 (hs.map fun x => reprText x ++ (": " : Str) ++ (PyData.int (gi (some x))).shown) fun t ht => by
    obtain ⟨x, hx, rfl⟩ := List.mem_map.mp ht
    have l5 := name_len x (hn x hx)
    have a := (sh_int (Nat.le_trans (h x hx) (by decide))).len
    have l4 : (": " : Str).length = 2 := rfl
    simp only [Str.length_append]
    omega
  rw [List.length_map] at l s
  rw [sizeLine_eq]
  omega
theorem kiD_depth {l : List (Str × Int)} : PyData.depthKv (l.map fun p => (PyData.str p.1, PyData.int p.2)) = 0 := by
  induction l with
  | nil => rfl
  | cons p r ih =>
    show max (max 0 0) (PyData.depthKv (r.map fun p => (PyData.str p.1, PyData.int p.2))) = 0
    rw [ih]
    rfl
/-- changes as they are given: numbers, or Ratios -/
inductive GivD (R : Addr) (H : Hp) (d : Addr) (hs : List Str) (g : Pt → Rat) : Prop where
  | whole {gi : Pt → Int} : H d = some (.dK (chgD hs gi)) → (∀ p, g p = (gi p : Rat)) → (∀ p, (gi p).natAbs ≤ 1000) → GivD R H d hs g
  | frac {ad : Str → Addr} : H d = some (.dK (hs.map fun x => ((Sum.inr x : L2.Key), V.ref (ad x)))) → (∀ x ∈ hs, RatQ R H (ad x) (g (some x)) ∧ Sml (g (some x))) → GivD R H d hs g
theorem GivD.same {R : Addr} {H H' : Hp} {d : Addr} {hs : List Str} {g : Pt → Rat} (h : GivD R H d hs g) (s : Same H H') : GivD R H' d hs g := by
  cases h with
  | whole a b c => exact .whole (s _ _ a) b c
  | frac a b => exact .frac (s _ _ a) fun x hx => ⟨(b x hx).1.same s, (b x hx).2⟩
theorem Sml.bd {q : Rat} (h : Sml q) : Bd 400 q := by
  refine ⟨Nat.lt_of_le_of_lt h.t ?_, Nat.lt_of_le_of_lt h.b ?_⟩
  · exact Nat.lt_of_lt_of_le (by decide : 100000 < 2 ^ 20) (Nat.pow_le_pow_right (by decide) (by decide))
  · exact Nat.lt_of_lt_of_le (by decide : 100000 < 2 ^ 20) (Nat.pow_le_pow_right (by decide) (by decide))
theorem GivD.num {R : Addr} {H : Hp} {d : Addr} {hs : List Str} {g : Pt → Rat} (h : GivD R H d hs g) : NumD R H d hs g := by
  cases h with
  | @whole gi a b c =>
    refine ⟨fun x => .int (gi (some x)), a, fun x _ => ⟨.inl ⟨_, rfl, b _⟩, ?_⟩⟩
    rw [b]
    refine (bd_int (k := 20) (by decide) ?_).up (by decide)
    exact Nat.lt_of_le_of_lt (c _) (by decide)
  | @frac ad a b => exact ⟨fun x => .ref (ad x), a, fun x hx => ⟨.inr ⟨_, rfl, (b x hx).1⟩, (b x hx).2.bd⟩⟩
theorem GivD.text {R : Addr} {H : Hp} {d : Addr} {hs : List Str} {g : Pt → Rat} (h : GivD R H d hs g) (hn : ∀ x ∈ hs, x ∈ names) (l4 : hs.length ≤ 4) : ∃ t : Str, ∀ (H' : Hp) (Q : VK), Same H H' → (∀ H'', Same H' H'' → Q (.str t) H'') → rReprG R [.ref d] H' Q := by
  cases h with
  | @whole gi a b c =>
    refine ⟨(kiD (hs.map fun x => (x, gi (some x)))).shown, fun H' Q s q => .inl ⟨d, hs.map fun x => (x, gi (some x)), rfl, ?_, ?_, ?_, ?_, q⟩⟩
    · rw [s _ _ a]
      unfold kiK chgD
      rw [List.map_map]
      rfl
    · exact kiD_showable fun x _ => c (some x)
    · exact kiD_len hn l4 fun x _ => c (some x)
    · show PyData.depthKv (hs.map _ |>.map _) + 1 ≤ 8
      rw [kiD_depth]
      decide
  | @frac ad a b => exact ⟨dictText (ratTQ hs g), fun H' Q s q => .inr ⟨d, _, _, rfl, s _ _ a, fun od => ratq_shows (s _ _ a) (fun _ _ _ z => by cases z) hn (fun x hx => ⟨(b x hx).1.same s, (b x hx).2⟩), ratq_len hn l4 (fun x hx => (b x hx).2), q⟩⟩
end KM

set_option Elab.async false
set_option linter.all false
set_option maxRecDepth 100000
set_option maxHeartbeats 4000000
set_option exponentiation.threshold 500
namespace KM
open PySem PySem.Spec PyProof.Rows L2 GL
/-! drawn changes, their parts -/
theorem mk_sub_le (a b m : Int) (n : Nat) (hn : 0 < n) : mkRat a n - mkRat b n ≤ (m : Rat) ↔ a - b ≤ m * n := by
  have h : (0 : Rat) < (n : Rat) := Rat.natCast_pos.mpr hn
  have e : mkRat a n - mkRat b n = ((a - b : Int) : Rat) / (n : Rat) := by
    rw [Rat.mkRat_eq_div, Rat.mkRat_eq_div, Rat.div_def, Rat.div_def, Rat.div_def, Rat.intCast_sub, Rat.sub_eq_add_neg, Rat.sub_eq_add_neg, Rat.add_mul, Rat.neg_mul]
  rw [e, ← Rat.not_lt, Rat.lt_div_iff h]
  have z : (m : Rat) * (n : Rat) = ((m * n : Int) : Rat) := by rw [Rat.intCast_mul]; rfl
  rw [z, Rat.intCast_lt_intCast]
  omega
theorem mk_sml {t : Int} {n : Nat} (hn : 0 < n) (h1 : t.natAbs ≤ 1000) (h2 : n ≤ 1000) : Sml (mkRat t n) := by
  obtain ⟨e1, e2⟩ := mk_parts (t := t) hn
  refine ⟨?_, ?_⟩
  · rw [e1]
    have := Int.natAbs_ediv_le_natAbs t ((t.natAbs.gcd n : Nat) : Int)
    omega
  · rw [e2]
    have := Nat.div_le_self n (t.natAbs.gcd n)
    omega
def giOf (l : List (Str × Int)) : Pt → Int
  | none => 0
  | some x => (l.lookup x).getD 0
theorem kiK_chg : ∀ {l : List (Str × Int)}, (l.map (·.1)).Nodup → kiK l = chgD (l.map (·.1)) (giOf l)
  | [], _ => rfl
  | p :: l, h => by
    have h' : p.1 ∉ l.map (·.1) ∧ (l.map (·.1)).Nodup := List.nodup_cons.mp h
    have ih := kiK_chg h'.2
    show (Sum.inr p.1, V.int p.2) :: kiK l = (Sum.inr p.1, V.int (giOf (p :: l) (some p.1))) :: (l.map (·.1)).map fun x => (Sum.inr x, V.int (giOf (p :: l) (some x)))
    have e1 : giOf (p :: l) (some p.1) = p.2 := by
      show (List.lookup p.1 (p :: l)).getD 0 = p.2
      obtain ⟨a, b⟩ := p
      simp [List.lookup]
    rw [e1, ih]
    congr 1
    unfold chgD
    refine List.map_congr_left fun x hx => ?_
    have ne : x ≠ p.1 := fun z => h'.1 (z ▸ hx)
    have e2 : giOf (p :: l) (some x) = giOf l (some x) := by
      show (List.lookup x (p :: l)).getD 0 = (List.lookup x l).getD 0
      obtain ⟨a, b⟩ := p
      have : (x == a) = false := by rw [beq_eq_false_iff_ne]; exact ne
      simp [List.lookup, this]
    rw [e2]
theorem giOf_bound {l : List (Str × Int)} {n : Nat} (h : ∀ q ∈ l, q.2.natAbs ≤ n) : ∀ p, (giOf l p).natAbs ≤ n
  | none => Nat.zero_le _
  | some x => by
    show ((l.lookup x).getD 0).natAbs ≤ n
    cases e : l.lookup x with
    | none => exact Nat.zero_le _
    | some v =>
      have : (x, v) ∈ l := by
        induction l with
        | nil => cases e
        | cons q l ih =>
          obtain ⟨a, b⟩ := q
          by_cases c : (x == a) = true
          · rw [List.lookup, c] at e
            have e : b = v := Option.some.inj e
            rw [eq_of_beq c, e]
            exact List.mem_cons_self ..
          · have c : (x == a) = false := by simpa using c
            rw [List.lookup, c] at e
            exact List.mem_cons_of_mem _ (ih (fun q hq => h q (List.mem_cons_of_mem _ hq)) e)
      exact h _ this
/-- positions whose sum is greater than a most, times the parts -/
def brkI (g : Pt → Int) (n : Nat) (rs : List Row) (i : Nat) : Bool := (rs[i]?).any fun r => decide (r.2.2 * (n : Int) < g r.1 - g r.2.1)
theorem brkI_eq {g : Pt → Int} {n : Nat} {rs : List Row} (hn : 0 < n) : brkI g n rs = brk (fun p => mkRat (g p) n) rs := by
  funext i
  unfold brkI brk
  congr 1
  funext r
  rw [Bool.eq_iff_iff, decide_eq_true_iff]
  simp only [Bool.not_eq_true', decide_eq_false_iff_not]
  rw [mk_sub_le _ _ _ _ hn]
  omega
/-- pairs of a text and a number that stand as tuples -/
abbrev PrsI (H : Hp) (ps : List Addr) (l : List (Str × Int)) : Prop := Paired (fun q (kv : Str × Int) => H q = some (.tup [.str kv.1, .int kv.2])) ps l
theorem prsI_kv {K : PySem.W.Frag} {H : Hp} : ∀ {ps : List Addr} {l : List (Str × Int)}, PrsI H ps l → Paired (fun p (kv : L2.Key × V) => SqT K H p [kV kv.1, kv.2]) ps (kiK l)
  | _, _, .nil => .nil
  | _, _, .cons h t => .cons (SqT.of h) (prsI_kv t)
theorem prsI_but {H H' : Hp} {p : Addr} {zs : List V} {ps : List Addr} {l : List (Str × Int)} (h : PrsI H ps l) (e : H p = some (.lst zs)) (b : But p H H') : PrsI H' ps l :=
  Paired.mapP h fun q kv z => b _ _ (ne_of z e (by intro y; cases y)) z
theorem prsI_same {H H' : Hp} {ps : List Addr} {l : List (Str × Int)} (h : PrsI H ps l) (s : Same H H') : PrsI H' ps l := Paired.mapP h fun q kv z => s _ _ z
theorem merge_kiK {l : List (Str × Int)} (h : (l.map (·.1)).Nodup) : mergeK [] (kiK l) = kiK l := by
  rw [merge_puts, puts_nd _ _ ?_, List.nil_append]
  rw [List.nil_append]
  unfold kiK
  rw [List.map_map]
  show (l.map fun p => (Sum.inr p.1 : L2.Key)).Nodup
  rw [show (l.map fun p => (Sum.inr p.1 : L2.Key)) = (l.map (·.1)).map (fun x => (Sum.inr x : L2.Key)) by rw [List.map_map]; rfl]
  exact List.Pairwise.map _ (fun a b n z => n (by cases z; rfl)) h
/-- pairs of a text and a Ratio -/
abbrev PrsQ (R : Addr) (H : Hp) (g : Pt → Rat) (ps : List Addr) (hs : List Str) : Prop := Paired (fun q x => ∃ a, H q = some (.tup [.str x, .ref a]) ∧ RatQ R H a (g (some x))) ps hs
theorem prsQ_same {R : Addr} {H H' : Hp} {g : Pt → Rat} {ps : List Addr} {hs : List Str} (h : PrsQ R H g ps hs) (s : Same H H') : PrsQ R H' g ps hs := Paired.mapP h fun q x ⟨a, e, r⟩ => ⟨a, s _ _ e, r.same s⟩
theorem prsQ_but {R : Addr} {H H' : Hp} {g : Pt → Rat} {p : Addr} {zs : List V} {ps : List Addr} {hs : List Str} (h : PrsQ R H g ps hs) (e : H p = some (.lst zs)) (b : But p H H') : PrsQ R H' g ps hs :=
  Paired.mapP h fun q x ⟨a, z, dx, r⟩ => ⟨a, b _ _ (ne_of z e (by intro y; cases y)) z, dx, b _ _ (ne_of r e (by intro y; cases y)) r⟩
theorem prsQ_kv {K : PySem.W.Frag} {R : Addr} {H : Hp} {g : Pt → Rat} : ∀ {ps : List Addr} {hs : List Str}, PrsQ R H g ps hs → hs.Nodup →
    ∃ ad : Str → Addr, Paired (fun p (kv : L2.Key × V) => SqT K H p [kV kv.1, kv.2]) ps (hs.map fun x => ((Sum.inr x : L2.Key), V.ref (ad x))) ∧ ∀ x ∈ hs, RatQ R H (ad x) (g (some x))
  | _, _, .nil, _ => ⟨fun _ => 0, .nil, fun x hx => absurd hx List.not_mem_nil⟩
  | _, _, .cons (b := x) (l₂ := hs) ⟨a, e, r⟩ t, nd => by
    obtain ⟨n1, n2⟩ := List.nodup_cons.mp nd
    obtain ⟨ad, h1, h2⟩ := prsQ_kv (K := K) t n2
    refine ⟨fun y => if y = x then a else ad y, ?_, fun y hy => ?_⟩
    · rw [List.map_cons]
      refine .cons ?_ ?_
      · show SqT K H _ [kV (Sum.inr x), V.ref (if x = x then a else ad x)]
        rw [if_pos rfl]
        exact SqT.of e
      · have z : (hs.map fun y => ((Sum.inr y : L2.Key), V.ref (if y = x then a else ad y))) = hs.map fun y => ((Sum.inr y : L2.Key), V.ref (ad y)) := List.map_congr_left fun y hy => by
          have ne : ¬ y = x := fun z => n1 (by rw [← z]; exact hy)
          show ((Sum.inr y : L2.Key), V.ref (if y = x then a else ad y)) = _
          rw [if_neg ne]
        rw [z]
        exact h1
    · by_cases c : y = x
      · subst c
        dsimp only
        rw [if_pos rfl]
        exact r
      · dsimp only
        rw [if_neg c]
        exact h2 y ((List.mem_cons.mp hy).resolve_left c)
theorem merge_kvD {hs : List Str} {av : Str → V} (h : hs.Nodup) : mergeK [] (kvD hs av) = kvD hs av := by
  rw [merge_puts, puts_nd _ _ ?_, List.nil_append]
  rw [List.nil_append]
  unfold kvD
  rw [List.map_map]
  exact List.Pairwise.map (fun x => (Sum.inr x : L2.Key)) (fun a b n z => n (by cases z; rfl)) h
theorem snocP {α β : Type} {R : α → β → Prop} : ∀ {as : List α} {bs : List β} {a : α} {b : β}, Paired R as bs → R a b → Paired R (as ++ [a]) (bs ++ [b])
  | _, _, _, _, .nil, h => .cons h .nil
  | _, _, _, _, .cons x t, h => .cons x (snocP t h)
end KM
namespace KM
open PySem PySem.Spec PyProof.Rows L2 GL
theorem but_upd {p U : Addr} {H H' : Hp} {o : HO} (b : But p H H') (n : H U = none) : But p H (upd H' U o) := fun a u ne e => by
  rw [upd_ne (ne_of_none e n)]
  exact b a u ne e
theorem pot_off {H H' : Hp} {p E : Addr} (h : PotAt H p) (n : p ≠ E) (b : But E H H') : PotAt H' p := by
  obtain ⟨x, y, e, z⟩ := h
  exact ⟨x, y, b _ _ n e, z⟩
theorem free_but {p a : Addr} {H H' : Hp} (b : But p H H') (n : H' a = none) (h : a ≠ p) : H a = none := back_but b n h
theorem seq_join {t u : TS} {D : L2.Ends} {σ : L2.St} {H : Hp} (P : L2.St → Hp → Prop) (hu : ∀ σ' H', P σ' H' → u D σ' H') (h : (∀ σ' H', P σ' H' → u D σ' H') → t { D with nx := u D } σ H) : tSeq t u D σ H := h hu
theorem seq_joinN {i : Nat} {x : V} {t u : TS} {D : L2.Ends} {σ : L2.St} {H : Hp} (P : L2.St → Hp → Prop) (hu : ∀ σ' H', P σ' H' → u D σ' H') (h : (∀ σ' H', P σ' H' → u D σ' H') → t { D with nx := u D } (σ.set i (some x)) H) : gName i x σ H ({ D with nx := tSeq t u D } : L2.Ends).nx := h hu
end KM
namespace KM
open PySem PySem.Spec PyProof.Rows L2 GL
theorem but_put {p L : Addr} {H H1 H2 : Hp} (b : But p H H1) (n : H L = none) (b2 : But L H1 H2) : But p H H2 := fun a o ne e => b2 a o (ne_of_none e n) (b a o ne e)
end KM

set_option Elab.async false
set_option linter.all false
set_option maxRecDepth 100000
set_option maxHeartbeats 4000000
namespace KM
open PySem PySem.Spec PyProof.Rows L2 GL
/-! odd dicts -/
abbrev zV : Str → V := fun _ => .int 0
/-- tuples of keys and values -/
abbrev Its (H : Hp) (ts : List Addr) (kvs : List (L2.Key × V)) : Prop := Paired (fun (t : Addr) (q : L2.Key × V) => H t = some (.tup [kV q.1, q.2])) ts kvs
theorem its_sq {K : PySem.W.Frag} {H : Hp} {ts : List Addr} {kvs : List (L2.Key × V)} (h : Its H ts kvs) : Paired (fun p (kv : L2.Key × V) => SqT K H p [kV kv.1, kv.2]) ts kvs := Paired.mapP h fun q kv z => SqT.of z
theorem its_same {H H' : Hp} {ts : List Addr} {kvs : List (L2.Key × V)} (h : Its H ts kvs) (s : Same H H') : Its H' ts kvs := Paired.mapP h fun q kv z => s _ _ z
theorem its_tail {H : Hp} : ∀ {ts : List Addr} {kvs : List (L2.Key × V)}, Its H ts kvs → Its H (ts.drop 1) (kvs.drop 1)
  | _, _, .nil => .nil
  | _, _, .cons _ t => t
theorem zzz_no : ∀ x ∈ names, x ≠ ("zzz" : Str) := by decide +kernel
theorem merge_zzz {hs : List Str} (nd : hs.Nodup) (hn : ∀ x ∈ hs, x ∈ names) : mergeK [] (kvD hs zV ++ [(Sum.inr ("zzz" : Str), V.int 0)]) = kvD (hs ++ [("zzz" : Str)]) zV := by
  have e : kvD hs zV ++ [(Sum.inr ("zzz" : Str), V.int 0)] = kvD (hs ++ [("zzz" : Str)]) zV := by
    unfold kvD
    rw [List.map_append]
    rfl
  rw [e, merge_kvD]
  refine List.nodup_append.mpr ⟨nd, List.nodup_cons.mpr ⟨List.not_mem_nil, .nil⟩, fun a ha b hb => ?_⟩
  rw [List.mem_singleton.mp hb]
  exact zzz_no a (hn a ha)
theorem merge_head {hs : List Str} {g0 : Str} {x : V} (nd : hs.Nodup) (h0 : g0 ∈ hs) : mergeK [] (kvD hs zV ++ [(Sum.inr g0, x)]) = kvD hs (fun y => if y = g0 then x else .int 0) := by
  rw [merge_puts, puts_snoc, ← merge_puts, merge_kvD nd]
  unfold putK
  rw [if_pos]
  · unfold kvD
    rw [List.map_map]
    refine List.map_congr_left fun y hy => ?_
    show (if (Sum.inr y : L2.Key) = Sum.inr g0 then ((Sum.inr y : L2.Key), x) else ((Sum.inr y : L2.Key), V.int 0)) = ((Sum.inr y : L2.Key), if y = g0 then x else V.int 0)
    by_cases c : y = g0
    · rw [if_pos (by rw [c]), if_pos c]
    · rw [if_neg (fun z => c (by cases z; rfl)), if_neg c]
  · exact List.any_eq_true.mpr ⟨(Sum.inr g0, .int 0), List.mem_map.mpr ⟨g0, h0, rfl⟩, decide_eq_true rfl⟩
theorem jv_zzz {H : Hp} {gs hs : List Str} {d : Addr} (hg : ∀ x ∈ gs, x ∈ names) (e : H d = some (.dK (kvD (hs ++ [("zzz" : Str)]) zV))) (l : hs.length ≤ 4) : JV H gs (.ref d) := by
  refine .dict e (by rw [List.length_append]; show _ + 1 ≤ 10; omega) (fun h _ => ⟨_, .int 0⟩) (.inl ⟨"zzz", List.mem_append_right _ (List.mem_singleton.mpr rfl), fun z => zzz_no _ (hg _ z) rfl⟩)
theorem jv_short {H : Hp} {gs hs : List Str} {d : Addr} (e : H d = some (.dK (kvD hs zV))) (l : hs.length + 1 = gs.length) (l4 : gs.length ≤ 4) : JV H gs (.ref d) :=
  .dict e (by omega) (fun h _ => ⟨_, .int 0⟩) (.inr (.inl (by omega)))
theorem jv_head {H : Hp} {gs : List Str} {d : Addr} {g0 : Str} {x : V} {n : String} (e : H d = some (.dK (kvD gs (fun y => if y = g0 then x else .int 0)))) (h0 : g0 ∈ gs) (l4 : gs.length ≤ 4) (k : Kd H x n) (ne : n ≠ "int") : JV H gs (.ref d) := by
  refine .dict e (by omega) (fun h _ => ?_) (.inr (.inr ⟨fun h hh => hh, g0, h0, n, by rw [if_pos rfl]; exact k, ne⟩))
  by_cases c : h = g0
  · exact ⟨n, by rw [if_pos c]; exact k⟩
  · exact ⟨_, by rw [if_neg c]; exact .int 0⟩
theorem JV.but {H H' : Hp} {gs : List Str} {x : V} {p : Addr} {xs ys : List V} (h : JV H gs x) (e : H p = some (.lst xs)) (e' : H' p = some (.lst ys)) (b : But p H H') : JV H' gs x := by
  cases h with
  | no a nd => exact .no (a.but e e' b) nd
  | dict a l c d =>
    refine .dict (b _ _ (ne_of a e (by intro z; cases z)) a) l (fun h hh => ?_) ?_
    · obtain ⟨n, k⟩ := c h hh
      exact ⟨n, k.but e e' b⟩
    · rcases d with d | d | ⟨d, h, hh, n, k, ne⟩
      · exact .inl d
      · exact .inr (.inl d)
      · exact .inr (.inr ⟨d, h, hh, n, k.but e e' b, ne⟩)
end KM
namespace KM
open PySem PySem.Spec PyProof.Rows L2 GL
/-! ends that meet, all round -/
theorem zip_chk {x : Row} : ∀ {T : List Row} {r : Row}, ((r :: T).zip (T ++ [x])).all (fun p => decide (p.1.2.1 = p.2.1)) = chk r.2.1 (T ++ [x])
  | [], r => by
    show (decide (r.2.1 = x.1) && true) = (decide (x.1 = r.2.1) && true)
    congr 1
    exact decide_eq_decide.mpr ⟨Eq.symm, Eq.symm⟩
  | t :: T, r => by
    show (decide (r.2.1 = t.1) && ((t :: T).zip (T ++ [x])).all fun p => decide (p.1.2.1 = p.2.1)) = (decide (t.1 = r.2.1) && chk t.2.1 (T ++ [x]))
    rw [zip_chk]
    congr 1
    exact decide_eq_decide.mpr ⟨Eq.symm, Eq.symm⟩
theorem round_chk {r : Row} {T : List Row} : ((r :: T).zip (T ++ [r])).all (fun p => decide (p.1.2.1 = p.2.1)) = chk (endOf r.2.1 T) (r :: T) := by
  rw [zip_chk, chk_snoc, Bool.and_comm]
  rfl
theorem rgl_round {rs : List Row} {k : Nat} {t : List Nat} (lt : ∀ j ∈ k :: t, j < rs.length) :
    RgL rs (k :: t) ↔ ((rowOf rs k :: t.map (rowOf rs)).zip (t.map (rowOf rs) ++ [rowOf rs k])).all (fun p => decide (p.1.2.1 = p.2.1)) = true ∧ KN.sumL rs (k :: t) < 0 := by
  have nn : (k :: t) ≠ [] := by simp
  obtain ⟨l', i, e⟩ : ∃ l' i, k :: t = l' ++ [i] := ⟨(k :: t).dropLast, (k :: t).getLast nn, (List.dropLast_concat_getLast nn).symm⟩
  have z := rgl_iff (rs := rs) (l' := l') (i := i) (by rw [← e]; exact lt)
  rw [← e] at z
  rw [z, round_chk]
  have e2 : endOf (rowOf rs k).2.1 (t.map (rowOf rs)) = (rowOf rs i).2.1 := by
    have h1 : ((k :: t).map (rowOf rs)).getLast? = some (rowOf rs i) := by rw [e]; exact last_row
    unfold endOf
    cases t with
    | nil =>
      have h1 : some (rowOf rs k) = some (rowOf rs i) := h1
      rw [← Option.some.inj h1]
      rfl
    | cons u t =>
      have h2 : ((u :: t).map (rowOf rs)).getLast? = some (rowOf rs i) := by
        rw [← h1]
        show List.getLast? (rowOf rs u :: t.map (rowOf rs)) = List.getLast? (rowOf rs k :: rowOf rs u :: t.map (rowOf rs))
        rw [List.getLast?_cons_cons]
      rw [h2]
      rfl
  rw [e2]
  rfl
def blsD (l : List Bool) : PyData := .list (l.map PyData.bool)
theorem dp_blsL {K : PySem.W.Frag} {H : Hp} {L : Addr} {l : List Bool} (e : H L = some (.lst (l.map V.bl))) : Dp K H (.ref L) (blsD l) := .lst (SqL.of e) (dp_bls l)
theorem sh_bool (b : Bool) : Sh (.bool b) 5 0 := by cases b <;> exact ⟨rfl, rfl, by decide +kernel, Nat.le_refl _⟩
theorem sh_bls2 (a b : Bool) : Shows (blsD [a, b]) := (sh_list PyData.bool [a, b] (n := 5) (k := 0) fun x _ => sh_bool x).shows (by show 5 * 2 + 2 * 2 + 3 ≤ 16777216; decide) (by decide)
end KM

set_option Elab.async false
set_option linter.all false
set_option maxRecDepth 100000
set_option maxHeartbeats 4000000
set_option exponentiation.threshold 500
namespace KM
open PySem PySem.Spec PyProof.Rows L2 GL
/-! broken conditions, by the law -/
abbrev sBr : Stmt := top 70
abbrev nBr : List Str := ["_law_pot_here", "_law_moves", "_law_goods", "_law_rows", "_law_turn", "_law_parts", "_law_changes", "_law_whole", "_law_due", "_law_given", "_law_told", "_law_shown", "_law_zero", "_law_odd", "_law_good", "_law_at", "_law_one", "_law_other", "_law_most", "_law_thing"]
theorem scBr : FnScope nBr ["_law_pot_here", "_law_moves", "_law_goods", "_law_rows"] (defScope sBr) := ⟨rfl, rfl, rfl, by decide +kernel, rfl, by decide +kernel, by decide +kernel⟩
def spBr (C : Addr) : Sp := fun vs H Q _ => ∃ (p m G B : Addr) (gs : List Str) (rs : List Row) (as : List Addr), vs = [.ref p, .ref m, .ref G, .ref B] ∧ PotAt H p ∧ MovesAt C H m gs rs ∧ Fit gs rs ∧ (∀ r ∈ rs, r.2.2.natAbs ≤ 100) ∧ H G = some (.lst (gs.map V.str)) ∧ H B = some (.lst (as.map V.ref)) ∧ RowsIn H as rs ∧ ∀ H', PotAt H' p → But p H H' → Q (.bl true) H'
section
variable {P : Program} {w : World} {K : PySem.W.Frag} {mg : Str → Option Value} {base : Heap} {C R : Addr}
theorem ok_brokenright {f : Addr} {fd : FuncData} (F : Fun K "_law_broken_right" "_law_broken_right" sBr f fd) (T : Bi mg) (C2 : Rc K mg R) (D : Has P w K mg base "_law_draw" 1 ["_law_pot_here", "_law_many"] spDraw) (PK : Has P w K mg base "_law_pick" 2 ["_law_pot_here", "_law_some"] (spPick K))
    (MK2 : HasC P w K mg base R 2 ["self", "top", "bottom"] (spQi R) 2 [] (fun vs _ => vs)) (RR : HasR P w K mg base R 1 (spQr R)) (BR : Has P w K mg base "broken" 7 ["moves", "move"] (spPb2 C R)) (BRK : HasK P w K mg base "broken" 7 ["moves", "move"] (spPb2 C R) ["move", "moves"] (fun _ zs => zs.reverse))
    (IMK : HasK P w K mg base "is_move" 7 ["moves", "value"] (spIsm2 C R) ["value", "moves"] (fun _ zs => zs.reverse)) (IMA : Has P w K mg base "is_move" 7 ["moves", "value"] (spIsmA C)) :
    FnG P w K mg base CX0 8 f fd ["_law_pot_here", "_law_moves", "_law_goods", "_law_rows"] (spBr C) := by
  refine okG F scBr (fun vs H Q E h => ?_) (fun cdv A out s H vs Q E g hr h => ?_)
  · obtain ⟨p, m, G, B, gs, rs, as, rfl, _⟩ := h
    rfl
  · obtain ⟨p, m, G, B, gs, rs, as, rfl, pot, hm, fit, low, eG, eB, rows, q⟩ := h
    have hr7 : Room 7 _ := hr
    have hr4 : Room 4 _ := hr.mono (by decide)
    have hr3 : Room 3 _ := hr.mono (by decide)
    have hr2 : Room 2 _ := hr.mono (by decide)
    have hr1 : Room 1 _ := hr.mono (by decide)
    have hu := hr.units
    have szl := sizeLine_eq
    obtain ⟨pa, pb, ep, _⟩ := id pot
    have l1 := fit.g.l1
    have l2 := fit.g.l2
    have la : (as.map V.ref).length = rs.length := by rw [List.length_map]; exact Paired.length rows
    have nG : G ≠ p := ne_of eG ep (by intro z; cases gs with | nil => cases z | cons a r => cases z)
    have nB : B ≠ p := ne_of eB ep (by intro z; cases as with | nil => cases z | cons a r => cases z)
    refine ⟨_, (pss_cons (ps_for PassesOwn.never rfl (pi_range1 (by rfl) T.range (pa_cons pe_int pa_nil)) (pg_name (i := 4) scBr.nd rfl (.inl rfl))
      (pss_cons (ps_set (i := 5) scBr.nd rfl (.inr rfl) (pe_has PK g hr2 (by rfl) (pa_cons (pv 0) (pa_cons (pe_lstL (pa_cons pe_int (pa_cons pe_int (pa_cons pe_int (pa_cons pe_int pa_nil))))) pa_nil))))
      (pss_cons (ps_set (i := 6) scBr.nd rfl (.inr rfl) (pe_callTy (call_dictK rfl) (by rfl) T.dict (by decide +kernel) (pa_cons (pe_lc (own := [("_law_good", 14)]) (g := gName 14) (tt := tYes) (te := tTupL (tCons (tVar 14) (tCons (tOp (rI0 fun i j => V.int (i - j)) (tGo (["_law_pot_here", "_law_many"] : List Str).length 0 (spDraw) (fun vs _ => vs) E0 (tCons (tVar 0) (tCons (tC (.int 15)) tNil)) tNil) (tC (.int 7))) tNil))) (by rfl) scBr.nd (pi_list (pv 2)) (blkOk_by (own := [("_law_good", 14)]) (N := nBr) (sc := defScope sBr) (by decide +kernel)) (fun _ _ _ _ _ => by exact (pg_name (i := 14) scBr.nd rfl (.inl rfl))) (fun _ _ _ _ _ => pts_nil) (fun _ _ _ _ _ => by exact (pe_tupL (pa_cons (pv 14) (pa_cons (pe_op op_sub (pe_has D g hr1 (by rfl) (pa_cons (pv 0) (pa_cons pe_int pa_nil))) pe_int) pa_nil))))) pa_nil)))
      (pss_cons (ps_set (i := 7) scBr.nd rfl (.inr rfl) (pe_callTy (call_dictN rfl) (by rfl) T.dict (by decide +kernel) (pa_cons (pe_op op_catL (LiI.pe_listItems (by rfl) (pv 6) (by rfl) T.list (by decide +kernel)) (pe_lstL (pa_cons (pe_tupL (pa_cons pe_non (pa_cons pe_int pa_nil))) pa_nil))) pa_nil)))
      (pss_cons (ps_setLc (i := 8) (own := [("_law_at", 15), ("_law_one", 16), ("_law_other", 17), ("_law_most", 18)]) (g := gTup K 2 (gCons (gName 15) (gCons (gTup K 3 (gCons (gName 16) (gCons (gName 17) (gCons (gName 18) gNil)))) gNil))) (tt := tTest (tOp (rI0 fun i j => V.bl (decide (j < i))) (tOp (rI0 fun i j => V.int (i - j)) (tOGet P w (tVar 7) (tVar 16)) (tOGet P w (tVar 7) (tVar 17))) (tOp (rI CMul fun i j => V.int (i * j)) (tVar 18) (tVar 5)))) (te := tVar 15) rfl scBr.nd rfl rfl (sw_true rfl rfl rfl (by decide +kernel)) (pi_enum (by rfl) T.enumerate (pa_cons (pv 3) pa_nil)) (blkOk_by (own := [("_law_at", 15), ("_law_one", 16), ("_law_other", 17), ("_law_most", 18)]) (N := nBr) (sc := defScope sBr) (by decide +kernel)) (fun _ _ _ _ _ => by exact (pg_tup rfl (pgs_cons (pg_name (i := 15) scBr.nd rfl (.inl rfl)) (pgs_cons (pg_tup rfl (pgs_cons (pg_name (i := 16) scBr.nd rfl (.inl rfl)) (pgs_cons (pg_name (i := 17) scBr.nd rfl (.inl rfl)) (pgs_cons (pg_name (i := 18) scBr.nd rfl (.inl rfl)) pgs_nil)))) pgs_nil)))) (fun _ _ _ _ _ => by exact (pts_one (pt_cmpR op_gt (pe_op op_sub (pe_oget (by have := hr.units; exact Nat.lt_of_le_of_lt (Nat.add_le_add_left (by decide) _) this) (pv 7) (pv 16) (fun _ _ => rfl)) (pe_oget (by have := hr.units; exact Nat.lt_of_le_of_lt (Nat.add_le_add_left (by decide) _) this) (pv 7) (pv 17) (fun _ _ => rfl))) (pe_op op_mul (pv 18) (pv 5)) (nomark _)))) (fun _ _ _ _ _ => by exact (pv 15)))
      (pss_cons (ps_set (i := 9) scBr.nd rfl (.inl rfl) (pe_callTy (call_dictK rfl) (by rfl) T.dict (by decide +kernel) (pa_cons (pe_lc (own := [("_law_good", 14)]) (g := gName 14) (tt := tYes) (te := tTupL (tCons (tVar 14) (tCons (tNew R 2 ([] : List Str).length (spQi R) (fun vs _ => vs) E0 (tCons (tDGet (tVar 6) (tVar 14)) (tCons (tVar 5) tNil)) tNil) tNil))) (by rfl) scBr.nd (pi_list (pe_revN (pv 2))) (blkOk_by (own := [("_law_good", 14)]) (N := nBr) (sc := defScope sBr) (by decide +kernel)) (fun _ _ _ _ _ => by exact (pg_name (i := 14) scBr.nd rfl (.inl rfl))) (fun _ _ _ _ _ => pts_nil) (fun _ _ _ _ _ => by exact (pe_tupL (pa_cons (pv 14) (pa_cons (pe_hasC MK2 g hr3 (by rfl) C2.gR (pa_cons (pe_dget (by have := hr.units; exact Nat.lt_of_le_of_lt (Nat.add_le_add_left (by decide) _) this) (pv 6) (pv 14) (fun _ _ => rfl)) (pa_cons (pv 5) pa_nil)) pk_nil) pa_nil))))) pa_nil)))
      (pss_cons (ps_if (PW.pt (pw_and (pt_cmpR op_eq (pv 5) pe_int (nomark _)) (pw_and1 (pt_cmpR op_eq (pe_has D g hr1 (by rfl) (pa_cons (pv 0) (pa_cons pe_int pa_nil))) pe_int (nomark _))))) (pss_one (ps_set (i := 9) scBr.nd rfl (.inl rfl) (pe_callTy (call_dictK rfl) (by rfl) T.dict (by decide +kernel) (pa_cons (LiI.pe_listItems (by rfl) (pv 6) (by rfl) T.list (by decide +kernel)) pa_nil)))) pss_nil)
      (pss_cons (ps_par (i := 10) (j := 11) (by rfl) scBr.nd rfl rfl (by decide) rfl rfl (pa_cons (pe_has BR g hr7 (by rfl) (pa_cons (pv 1) (pa_cons (pv 9) pa_nil))) (pa_cons (pe_callB (cr_reprG RR g hr4 hu) (by rfl) T.repr (by decide +kernel) (pa_cons (pv 9) pa_nil)) pa_nil)) (by rfl))
      (pss_cons (ps_if (PW.pt (pw_or (pt_cmpR op_ne (pe_callB (call_repr_D g hu) (by rfl) T.repr (by decide +kernel) (pa_cons (pv 10) pa_nil)) (pe_callB (call_repr_D g hu) (by rfl) T.repr (by decide +kernel) (pa_cons (pv 8) pa_nil)) (nomark _)) (pw_or1 (pt_cmpR op_ne (pe_callB (call_repr_bl g hu) (by rfl) T.repr (by decide +kernel) (pa_cons (pe_hasK IMK g hr7 (by rfl) (pk_cons (pv 9) (pk_cons (pv 1) pk_nil))) pa_nil)) (pe_callB (call_repr_bl g hu) (by rfl) T.repr (by decide +kernel) (pa_cons (pe_cmpR (op_eqD hu) (pv 8) (pe_lstL pa_nil) (nomark _)) pa_nil)) (nomark _))))) (pss_one (ps_ret pe_bl)) pss_nil)
      (pss_cons (ps_expr (pe_bm PySem.F.plainAttrs_list PySem.F.slot_list_append PySem.F.type_list_append mt_appL (pv 10) (pa_cons pe_non pa_nil)))
      (pss_one (ps_if (PW.pt (pw_or (pt_cmpR op_ne (pe_callB (call_repr_D g hu) (by rfl) T.repr (by decide +kernel) (pa_cons (pe_hasK BRK g hr7 (by rfl) (pk_cons (pv 9) (pk_cons (pv 1) pk_nil))) pa_nil)) (pe_callB (call_repr_D g hu) (by rfl) T.repr (by decide +kernel) (pa_cons (pv 8) pa_nil)) (nomark _)) (pw_or1 (pt_cmpR op_ne (pe_callB (cr_reprG RR g hr4 hu) (by rfl) T.repr (by decide +kernel) (pa_cons (pv 9) pa_nil)) (pv 11) (nomark _))))) (pss_one (ps_ret pe_bl)) pss_nil))))))))))))
      (pss_cons (ps_set (i := 12) scBr.nd rfl (.inr rfl) (pe_callTy (call_dictK rfl) (by rfl) T.dict (by decide +kernel) (pa_cons (pe_lc (own := [("_law_good", 14)]) (g := gName 14) (tt := tYes) (te := tTupL (tCons (tVar 14) (tCons (tC (.int 0)) tNil))) (by rfl) scBr.nd (pi_list (pv 2)) (blkOk_by (own := [("_law_good", 14)]) (N := nBr) (sc := defScope sBr) (by decide +kernel)) (fun _ _ _ _ _ => by exact (pg_name (i := 14) scBr.nd rfl (.inl rfl))) (fun _ _ _ _ _ => pts_nil) (fun _ _ _ _ _ => by exact (pe_tupL (pa_cons (pv 14) (pa_cons pe_int pa_nil))))) pa_nil)))
      (pss_cons (ps_set (i := 13) scBr.nd rfl (.inl rfl) (pe_lstL (pa_cons pe_non (pa_cons pe_int (pa_cons pe_str (pa_cons (pe_lstL pa_nil) (pa_cons (pe_tupL pa_nil) (pa_cons (LiI.pe_listItems (by rfl) (pv 12) (by rfl) T.list (by decide +kernel)) (pa_cons (pe_callTy (call_dictK rfl) (by rfl) T.dict (by decide +kernel) (pa_cons (pe_op op_catL (LiI.pe_listItems (by rfl) (pv 12) (by rfl) T.list (by decide +kernel)) (pe_lstL (pa_cons (pe_tupL (pa_cons pe_str (pa_cons pe_int pa_nil))) pa_nil))) pa_nil)) (pa_cons pe_bl pa_nil))))))))))
      (pss_cons (ps_expr (pe_bm PySem.F.plainAttrs_list PySem.F.slot_list_extend PySem.F.type_list_extend mt_extL (pv 13) (pa_cons (pe_lc (own := [("_law_thing", 19)]) (g := gName 19) (tt := tYes) (te := tCB (rDictK K) (tCons (tOp rCatL (LiI.tListItems (tVar 12)) (tLstL (tCons (tTupL (tCons (tOp (rIxL K) (tVar 2) (tC (.int 0))) (tCons (tVar 19) tNil))) tNil))) tNil)) (by rfl) scBr.nd (pi_list (pe_lstL (pa_cons pe_non (pa_cons pe_bl (pa_cons pe_str (pa_cons (pe_lstL (pa_cons pe_int pa_nil)) pa_nil)))))) (blkOk_by (own := [("_law_thing", 19)]) (N := nBr) (sc := defScope sBr) (by decide +kernel)) (fun _ _ _ _ _ => by exact (pg_name (i := 19) scBr.nd rfl (.inl rfl))) (fun _ _ _ _ _ => pts_nil) (fun _ _ _ _ _ => by exact (pe_callTy (call_dictK rfl) (by rfl) T.dict (by decide +kernel) (pa_cons (pe_op op_catL (LiI.pe_listItems (by rfl) (pv 12) (by rfl) T.list (by decide +kernel)) (pe_lstL (pa_cons (pe_tupL (pa_cons (pe_ix ix_list (pv 2) pe_int (fun _ _ => rfl)) (pa_cons (pv 19) pa_nil))) pa_nil))) pa_nil)))) pa_nil)))
      (pss_cons (ps_expr (pe_bm PySem.F.plainAttrs_list PySem.F.slot_list_append PySem.F.type_list_append mt_appL (pv 13) (pa_cons (pe_callTy (call_dictK rfl) (by rfl) T.dict (by decide +kernel) (pa_cons (pe_slice slcL (LiI.pe_listItems (by rfl) (pv 12) (by rfl) T.list (by decide +kernel)) (po_some pe_int) po_none) pa_nil)) pa_nil)))
      (pss_cons (ps_expr (pe_bm PySem.F.plainAttrs_list PySem.F.slot_list_append PySem.F.type_list_append mt_appL (pv 13) (pa_cons (pe_callTy (call_dictK rfl) (by rfl) T.dict (by decide +kernel) (pa_cons (pe_op op_catL (pe_slice slcL (LiI.pe_listItems (by rfl) (pv 12) (by rfl) T.list (by decide +kernel)) (po_some pe_int) po_none) (pe_lstL (pa_cons (pe_tupL (pa_cons pe_str (pa_cons pe_int pa_nil))) pa_nil))) pa_nil)) pa_nil)))
      (pss_one (ps_ret (pe_not (pe_callB (cr_any (by rfl)) (by rfl) T.any (by decide +kernel) (pa_cons (pe_lc (own := [("_law_thing", 19)]) (g := gName 19) (tt := tYes) (te := (tGo (["moves", "value"] : List Str).length 0 (spIsmA C) (fun vs _ => vs) E0 (tCons (tVar 1) (tCons (tVar 19) tNil)) tNil)) (by rfl) scBr.nd (pi_list (pv 13)) (blkOk_by (own := [("_law_thing", 19)]) (N := nBr) (sc := defScope sBr) (by decide +kernel)) (fun _ _ _ _ _ => by exact (pg_name (i := 19) scBr.nd rfl (.inl rfl))) (fun _ _ _ _ _ => pts_nil) (fun _ _ _ _ _ => by exact (pe_has IMA g hr7 (by rfl) (pa_cons (pv 1) (pa_cons (pv 19) pa_nil))))) pa_nil))))))))))), ?_⟩
    refine ⟨5, rfl, by decide, by decide, ?_⟩
    refine for_range (n := 5) (fun i σ H' => ∃ x4 x5 x6 x7 x8 x9 x10 x11 x12 x13 x14 x15 x16 x17 x18 x19, σ = [some (.ref p), some (.ref m), some (.ref G), some (.ref B), x4, x5, x6, x7, x8, x9, x10, x11, x12, x13, x14, x15, x16, x17, x18, x19] ∧ PotAt H' p ∧ But p H H') ?_ ?_ ?_
    · exact ⟨_, _, _, _, _, _, _, _, _, _, _, _, _, _, _, _, rfl, pot, But.refl⟩
    · rintro i σ H1 hi ⟨x4, x5, x6, x7, x8, x9, x10, x11, x12, x13, x14, x15, x16, x17, x18, x19, rfl, pot1, b1⟩
      -- parts
      refine ⟨_, rfl, by show 4 ≤ sizeLine; omega, fun M1 H2 n2 e2 s2 => ?_⟩
      obtain ⟨pa1, pb1, ep1, _⟩ := id pot1
      refine ⟨rfl, rfl, p, M1, _, rfl, pot_same pot1 s2, SqL.of e2, ne_some n2 ep1, by decide, by decide, fun j x H3 hx pot3 b3 => ?_⟩
      have hxn : ∃ n : Nat, x = nI n ∧ 0 < n ∧ n ≤ 3 := by
        match j, hx with
        | 0, hx => cases hx; exact ⟨1, rfl, by decide, by decide⟩
        | 1, hx => cases hx; exact ⟨1, rfl, by decide, by decide⟩
        | 2, hx => cases hx; exact ⟨2, rfl, by decide, by decide⟩
        | 3, hx => cases hx; exact ⟨3, rfl, by decide, by decide⟩
        | n + 4, hx => cases hx
      obtain ⟨n, rfl, n0, n3⟩ := hxn
      have b13 : But p H H3 := b1.trans ((But.of s2).trans b3)
      -- changes
      refine ⟨_, rfl, G, rfl, ⟨_, SqL.of (b13 _ _ nG eG)⟩, fun U nU => ?_⟩
      obtain ⟨pa3, pb3, ep3, _⟩ := id pot3
      have nUp : U ≠ p := ne_some nU ep3
      refine lc_it (walk_list (K := K) (a := G) (xs := gs.map V.str)) (fun i H' => But p H3 H' ∧ PotAt H' p ∧ ∃ (ps : List Addr) (l : List (Str × Int)), H' U = some (.lst (ps.map V.ref)) ∧ PrsI H' ps l ∧ l.map (·.1) = gs.take i ∧ (∀ q ∈ l, q.2.natAbs ≤ 7) ∧ ps.length ≤ i) ⟨But.of (same_new (Same.refl' _) nU), pot_same pot3 (same_new (Same.refl' _) nU), [], [], upd_same, .nil, rfl, (fun q hq => absurd hq List.not_mem_nil), Nat.le_refl _⟩ (fun i H' _ ⟨z, _⟩ => SqL.of (z _ _ nG (b13 _ _ nG eG))) ?_ ?_
      · rintro k x H4 H5 hk ⟨b4, pot4, ps, l, e4, pr4, fst4, bd4, ln4⟩ ⟨rfl, hx⟩
        obtain ⟨y, hy, rfl⟩ := get_map hx
        rw [List.length_map] at hk
        refine ⟨rfl, yes_go ?_⟩
        refine ⟨_, rfl, _, rfl, rfl, rfl, p, 15, rfl, pot4, by decide, by decide, fun d H6 d0 d1 pot6 b6 => ?_⟩
        refine ⟨_, _, rfl, rfl, by show 2 ≤ sizeLine; omega, fun t H7 nt et st => ?_⟩
        have e6 := b6 _ _ nUp e4
        have e7 := st _ _ e6
        have pr7 := prsI_same (prsI_but pr4 pot4.choose_spec.choose_spec.1 b6) st
        have b7 : But p H3 H7 := (b4.trans b6).trans (But.of st)
        refine ⟨_, e7, by rw [List.length_map]; omega, but_upd b7 nU, pot_off (pot_same pot6 st) nUp.symm But.refl.upd, ps ++ [t], l ++ [(y, d - 7)], by rw [upd_same, List.map_append]; rfl, ?_, ?_, ?_, by simp; omega⟩
        · exact snocP (prsI_but pr7 e7 But.refl.upd) (by show upd _ _ _ t = _; rw [upd_ne (ne_some nt e6)]; exact et)
        · rw [take_more hy, List.map_append, fst4]
          rfl
        · intro q hq
          rcases List.mem_append.mp hq with hq | hq
          · exact bd4 q hq
          · rw [List.mem_singleton.mp hq]
            show (d - 7).natAbs ≤ 7
            omega
      rintro H4 ⟨b4, pot4, ps, l, e4, pr4, fst4, bd4, ln4⟩
      rw [List.length_map, List.take_length] at fst4
      have nd : (l.map (·.1)).Nodup := by rw [fst4]; exact fit.g.nd
      refine ⟨U, ps, kiK l, rfl, SqL.of e4, prsI_kv pr4, fun cd H5 n5 e5 s5 => ?_⟩
      rw [merge_kiK nd, kiK_chg nd, fst4] at e5
      have gb := giOf_bound bd4
      have g0 : giOf l none = 0 := rfl
      generalize giOf l = gi at e5 gb g0
      have b15 : But p H H5 := (b13.trans b4).trans (But.of s5)
      have pot5 := pot_same pot4 s5
      -- the whole
      refine ⟨_, rfl, cd, _, rfl, e5, fun H6 L1 ts s6 n6 nt6 nin6 e6 pr6 => ?_⟩
      refine ⟨by show 2 ≤ sizeLine; omega, fun tn H7 n7 e7 s7 => ⟨by show 1 ≤ sizeLine; omega, fun q1 H8 n8 e8 s8 => ?_⟩⟩
      have lt6 := Paired.length pr6
      have lc6 : (chgD gs gi).length = gs.length := by unfold chgD; rw [List.length_map]
      refine ⟨L1, q1, _, _, rfl, rfl, (s7.trans s8) _ _ e6, e8, by rw [List.length_map]; show ts.length + 1 ≤ sizeLine; omega, fun Lw H9 n9 e9 s9 => ?_⟩
      have s79 := (s7.trans s8).trans s9
      have pk := wholes (K := K) pr6 s79 (s9 _ _ (s8 _ _ e7))
      refine ⟨Lw, ts ++ [tn], _, rfl, SqL.of (by rw [e9]; simp), pk, fun W H10 n10 e10 s10 => ?_⟩
      have s510 : Same H5 H10 := fun a o e => s10 _ _ (s79 _ _ (s6 _ _ e))
      have wh : WholeI P w H10 W (pts gs) gi := ⟨_, e10, fun p hp => wholes_val g0 hp⟩
      have b10 : But p H H10 := b15.trans (But.of s510)
      have pot10 := pot_same pot5 s510
      have e10c := s510 _ _ e5
      have rows10 : RowsIn H10 as rs := rows_but rows b10 ep
      have eB10 := b10 _ _ nB eB
      -- due
      refine ⟨_, rfl, B, _, rfl, SqL.of eB10, fun L3 nL3 => ?_⟩
      refine lc_it (walk_enum (K := K) (a := B) (xs := as.map V.ref)) (fun k H' => Same H10 H' ∧ H' L3 = some (.lst (((List.range k).filter (brkI gi n rs)).map nI))) ⟨same_new (Same.refl' _) nL3, upd_same⟩ (fun k H' _ ⟨z, _⟩ => SqL.of (z _ _ eB10)) ?_ ?_
      · rintro k x J1 J2 hk ⟨s11, e11⟩ ⟨Tp, a, b, rfl, nT, rfl, ea, eb⟩
        cases ea
        obtain ⟨tr, r, rfl, er, et⟩ := rows_at (rows_same rows10 s11) eb
        have gr := fit.r r (List.mem_of_getElem? er)
        have lw := low r (List.mem_of_getElem? er)
        rw [la] at hk
        have hT : Same J1 (upd J1 Tp (.tup [.int (k : Nat), .ref tr])) := same_new (Same.refl' _) nT
        have eT : (upd J1 Tp (.tup [.int (k : Nat), .ref tr])) Tp = some (.tup [.int (k : Nat), .ref tr]) := upd_same
        have et3 := hT _ _ et
        have s12 := s11.trans hT
        have e12 := hT _ _ e11
        generalize upd J1 Tp (.tup [.int (k : Nat), .ref tr]) = J2 at hT eT et3 s12 e12
        refine ⟨Tp, _, rfl, SqT.of eT, rfl, _, _, rfl, _, _, rfl, tr, _, rfl, SqT.of et3, rfl, _, _, rfl, _, _, rfl, _, _, rfl, rfl, rfl, rfl, ?_⟩
        have og := fun {q : Pt} hq => (wh.same s12).get (p := q) hq
        refine ⟨_, rfl, _, rfl, W, _, rfl, og (in_pts gr.one), _, rfl, _, rfl, W, _, rfl, og (in_pts gr.two), _, _, rfl, rfl, _, rfl, _, rfl, _, _, rfl, rfl, .inl ⟨by omega, by omega⟩, _, _, rfl, rfl, _, rfl, ?_⟩
        have bk : brkI gi n rs k = decide (r.2.2 * (n : Int) < gi r.1 - gi r.2.1) := by
          unfold brkI
          rw [er, Option.any_some]
        rw [range_filter_snoc, bk]
        by_cases c0 : r.2.2 * (n : Int) < gi r.1 - gi r.2.1
        · rw [decide_eq_true c0]
          refine iteT ?_
          refine ⟨_, rfl, _, e12, small1000 (by rw [List.length_map]; have := List.length_filter_le (brkI gi n rs) (List.range k); rw [List.length_range] at this; have := fit.n; omega), same_but s12 But.refl.upd nL3, ?_⟩
          rw [upd_same, if_pos (by rfl), List.map_append]
          rfl
        · rw [decide_eq_false c0]
          refine iteF ⟨s12, ?_⟩
          rw [if_neg (by simp), List.append_nil]
          exact e12
      rintro H11 ⟨s11, e11⟩
      rw [la, brkI_eq n0] at e11
      have lD : ((List.range rs.length).filter (brk (fun p => mkRat (gi p) n) rs)).length ≤ 24 := by
        have := List.length_filter_le (brk (fun p => mkRat (gi p) n) rs) (List.range rs.length)
        rw [List.length_range] at this
        have := fit.n
        omega
      have mD : ∀ k ∈ (List.range rs.length).filter (brk (fun p => mkRat (gi p) n) rs), k ≤ 1000000 := fun k hk => by
        have := List.mem_range.mp (List.mem_filter.mp hk).1
        have := fit.n
        omega
      have shD : Shows (natsD ((List.range rs.length).filter (brk (fun p => mkRat (gi p) n) rs))) := (sh_nats (n := 24) mD lD).shows (by decide) (by decide)
      have b11 := b10.trans (But.of s11)
      have pot11 := pot_same pot10 s11
      have e11c := s11 _ _ e10c
      have eG11 := b11 _ _ nG eG
      -- given: Ratios
      refine ⟨_, rfl, G, _, rfl, SqL.of eG11, fun L4 H12 n12 e12 s12 => ?_⟩
      rw [← List.map_reverse] at e12
      refine ⟨L4, rfl, ⟨_, SqL.of e12⟩, fun L5 nL5 => ?_⟩
      have e12c := s12 _ _ e11c
      have smq : ∀ q, Sml (mkRat (gi q) n) := fun q => mk_sml n0 (by have := gb q; omega) (by omega)
      refine lc_it (walk_list (K := K) (a := L4) (xs := gs.reverse.map V.str)) (fun k H' => Same H12 H' ∧ ∃ ps : List Addr, H' L5 = some (.lst (ps.map V.ref)) ∧ PrsQ R H' (fun q => mkRat (gi q) n) ps (gs.reverse.take k) ∧ ps.length ≤ k) ⟨same_new (Same.refl' _) nL5, [], upd_same, .nil, Nat.le_refl _⟩ (fun k H' _ ⟨z, _⟩ => SqL.of (z _ _ e12)) ?_ ?_
      · rintro k x J1 J2 hk ⟨s13, ps, e13, pr13, lp13⟩ ⟨rfl, hx⟩
        obtain ⟨y, hy, rfl⟩ := get_map hx
        rw [List.length_map, List.length_reverse] at hk
        have my : y ∈ gs := List.mem_reverse.mp (List.mem_of_getElem? hy)
        refine ⟨rfl, yes_go ?_⟩
        refine ⟨_, rfl, _, rfl, _, rfl, cd, .int (gi (some y)), rfl, ?_, ?_⟩
        · have z := DGet.k (k := Sum.inr y) (s13 _ _ e12c)
          rw [show chgD gs gi = gs.map fun x => ((Sum.inr x : L2.Key), V.int (gi (some x))) from rfl, strs_val (f := fun x => V.int (gi (some x))) my] at z
          exact z
        refine ⟨_, rfl, rfl, rfl, ?_⟩
        refine q_mk (n := n) n0 ?_ ?_ fun z H14 nz rz s14 => ?_
        · exact Nat.lt_of_le_of_lt (gb _) (Nat.lt_of_lt_of_le (by decide : 7 < 2 ^ 3) (Nat.pow_le_pow_right (by decide) (by decide)))
        · exact Nat.lt_of_le_of_lt n3 (Nat.lt_of_lt_of_le (by decide : 3 < 2 ^ 3) (Nat.pow_le_pow_right (by decide) (by decide)))
        refine ⟨by show 2 ≤ sizeLine; omega, fun t H15 n15 e15 s15 => ?_⟩
        have s1415 := s14.trans s15
        have e15L := s1415 _ _ e13
        refine ⟨_, e15L, by rw [List.length_map]; omega, same_but (s13.trans s1415) But.refl.upd nL5, ps ++ [t], by rw [upd_same, List.map_append]; rfl, ?_, by simp; omega⟩
        rw [take_more hy]
        refine snocP (prsQ_but (prsQ_same pr13 s1415) e15L But.refl.upd) ⟨z, ?_, ?_⟩
        · rw [upd_ne (ne_of e15 e15L (by intro q; cases q))]
          exact e15
        · obtain ⟨dz, ez⟩ := rz.same s15
          exact ⟨dz, by rw [upd_ne (ne_of ez e15L (by intro q; cases q))]; exact ez⟩
      rintro H13 ⟨s13, ps, e13, pr13, lp13⟩
      rw [List.length_map, List.take_length] at pr13
      have ndr : gs.reverse.Nodup := (List.reverse_perm gs).nodup_iff.mpr fit.g.nd
      obtain ⟨ad, pk13, rat13⟩ := prsQ_kv (K := K) pr13 ndr
      refine ⟨L5, ps, _, rfl, SqL.of e13, pk13, fun gd H14 n14 e14 s14 => ?_⟩
      rw [merge_kvD ndr] at e14
      have b14 : But p H H14 := b11.trans (But.of ((s12.trans s13).trans s14))
      have pot14 : PotAt H14 p := pot_same pot11 ((s12.trans s13).trans s14)
      have e14c := (s13.trans s14) _ _ e12c
      have e14D := ((s12.trans s13).trans s14) _ _ e11
      generalize eD : (List.range rs.length).filter (brk (fun p => mkRat (gi p) n) rs) = due at e14D shD lD
      obtain ⟨pa14, pb14, ep14, _⟩ := id pot14
      have hru : ∀ {a : Addr}, H10 a = none → H14 a = none → a ≠ p := fun {a} h1 h2 => ne_some h2 ep14
      refine seq_joinN (fun σ' H' => ∃ (gd' : Addr) (hs : List Str) (y10 y11 y12 y13 y14 y15 y16 y17 y18 y19 : Option V), σ' = [some (.ref p), some (.ref m), some (.ref G), some (.ref B), some (.int (0 + (i : Nat))), some (nI n), some (.ref cd), some (.ref W), some (.ref L3), some (.ref gd'), y10, y11, y12, y13, y14, y15, y16, y17, y18, y19] ∧
        GivD R H' gd' hs (fun q => mkRat (gi q) n) ∧ hs.Perm gs ∧ PotAt H' p ∧ But p H14 H') ?_ ?_
      · rintro σ' H15 ⟨gd', hs, y10, y11, y12, y13, y14, y15, y16, y17, y18, y19, rfl, giv, perm, pot15, b15⟩
        obtain ⟨pa10, pb10, ep10, _⟩ := id pot10
        have n3p : L3 ≠ p := ne_some nL3 ep10
        have e15D := b15 _ _ n3p e14D
        have B15 : But p H H15 := b14.trans b15
        have hm15 : MovesAt C H15 m gs rs := hm.but pot B15
        have hl := perm.length_eq
        have hnm : ∀ x ∈ hs, x ∈ names := fun x hx => fit.g.sub x (perm.mem_iff.mp hx)
        obtain ⟨tx, htx⟩ := giv.text hnm (by omega)
        have g0q : (fun q => mkRat (gi q) n) none = (0 : Rat) := by
          dsimp only
          rw [g0, Rat.zero_mkRat]
        refine ⟨_, rfl, _, rfl, rfl, rfl, m, gd', gs, rs, hs, _, rfl, hm15, fit, giv.num, perm, g0q, fun L H16 n16 e16 s16 => ?_⟩
        rw [eD] at e16
        refine ⟨_, rfl, htx _ _ s16 fun H17 s17 => ?_⟩
        refine ⟨_, _, rfl, ?_⟩
        have s1517 := s16.trans s17
        refine ⟨_, rfl, L, _, rfl, dp_nats (SqL.of (s17 _ _ e16)), shD, _, rfl, L3, _, rfl, dp_nats (SqL.of (s1517 _ _ e15D)), shD, rfl, _, rfl, ?_⟩
        rw [decide_eq_true rfl]
        refine iteF ?_
        refine ⟨_, rfl, _, rfl, rfl, rfl, m, gd', gs, rs, hs, _, rfl, hm15.same s1517, fit, (giv.same s1517).num, perm, g0q, fun b H18 hb s18 => ⟨b, rfl, ?_⟩⟩
        have s1518 := s1517.trans s18
        refine ⟨_, rfl, by show 0 ≤ sizeLine; omega, fun Z H19 n19 e19 s19 => ?_⟩
        have s1519 := s1518.trans s19
        refine ⟨natsD due, natsD [], dp_nats (SqL.of (s1519 _ _ e15D)), dp_nats (SqL.of e19), shaped_nats _, shaped_nats _, ?_⟩
        rw [eqv_nats]
        have hbd : b = decide (due = []) := by
          rw [← eD, Bool.eq_iff_iff, decide_eq_true_iff, brk_none]
          exact hb
        refine ⟨_, rfl, rfl, _, rfl, ?_⟩
        rw [← hbd, decide_eq_true rfl]
        refine iteF ?_
        have nL15 := n16
        have e19L := (s18.trans s19) _ _ (s17 _ _ e16)
        refine ⟨_, rfl, .inl ⟨rfl, _, SqL.of e19L⟩, L, _, .non, rfl, rfl, e19L, by rw [List.length_map]; omega, fun H20 e20 b20 => ?_⟩
        have s1520 : Same H15 H20 := same_but s1519 b20 nL15
        refine ⟨_, rfl, _, rfl, rfl, rfl, m, gd', gs, rs, hs, _, rfl, hm15.same s1520, fit, (giv.same s1520).num, perm, g0q, fun Lb H21 n21 e21 s21 => ?_⟩
        rw [eD] at e21
        have s1521 := s1520.trans s21
        refine ⟨Lb, _, rfl, dp_nats (SqL.of e21), shD, _, rfl, L3, _, rfl, dp_nats (SqL.of (s1521 _ _ e15D)), shD, rfl, _, rfl, ?_⟩
        rw [decide_eq_true rfl]
        refine iteF ?_
        refine ⟨_, rfl, htx _ _ s1521 fun H22 s22 => ?_⟩
        refine ⟨_, rfl, rfl, _, rfl, ?_⟩
        rw [decide_eq_true rfl]
        refine iteF ?_
        exact ⟨_, _, _, _, _, _, _, _, _, _, _, _, _, _, _, _, rfl, pot_same pot15 (s1521.trans s22), B15.trans (But.of (s1521.trans s22))⟩
      · intro hP
        have g1 : GivD R H14 gd gs.reverse (fun q => mkRat (gi q) n) := .frac e14 fun x hx => ⟨(rat13 x hx).same s14, smq (some x)⟩
        refine ⟨_, rfl, rfl, _, rfl, ?_⟩
        have d1 : decide (nI n = V.int 1) = decide (n = 1) := decide_eq_decide.mpr ⟨fun z => by injection z with z; omega, fun z => by rw [z]; rfl⟩
        rw [d1]
        by_cases c1 : n = 1
        · rw [decide_eq_true c1]
          refine iteT ?_
          refine ⟨_, rfl, rfl, rfl, p, 2, rfl, pot14, by decide, by decide, fun d2 H15 _ _ pot15 b15' => ⟨rfl, _, rfl, ?_⟩⟩
          have ncd : cd ≠ p := ne_of e14c ep14 (by intro z; cases z)
          have e15c := b15' _ _ ncd e14c
          by_cases c2 : d2 = 0
          · rw [decide_eq_true (by rw [c2])]
            refine iteT ?_
            refine ⟨_, rfl, cd, _, rfl, e15c, fun H16 La ta s16 n16 nt16 nin16 e16 pr16 => ?_⟩
            refine ⟨La, ta, _, rfl, SqL.of e16, Paired.mapP pr16 fun q kv z => SqT.of z, fun gd3 H17 n17 e17 s17 => ?_⟩
            rw [show chgD gs gi = kvD gs (fun x => V.int (gi (some x))) from rfl, merge_kvD fit.g.nd] at e17
            have s1517 : Same H15 H17 := fun a o e => s17 _ _ (s16 _ _ e)
            refine hP _ _ ⟨gd3, gs, _, _, _, _, _, _, _, _, _, _, rfl, .whole e17 (fun q => by rw [c1, Rat.mkRat_one]) (fun q => by have := gb q; omega), List.Perm.refl _, pot_same pot15 s1517, b15'.trans (But.of s1517)⟩
          · rw [decide_eq_false (fun z => c2 (by injection z))]
            have nS : ∀ x ∈ gs.reverse, True := fun _ _ => True.intro
            refine iteF (hP _ _ ⟨gd, gs.reverse, _, _, _, _, _, _, _, _, _, _, rfl, ?_, List.reverse_perm gs, pot15, b15'⟩)
            refine .frac (b15' _ _ (ne_of e14 ep14 (by intro z; cases z)) e14) fun x hx => ⟨?_, smq (some x)⟩
            obtain ⟨dz, ez⟩ := (rat13 x hx).same s14
            exact ⟨dz, b15' _ _ (ne_of ez ep14 (by intro z; cases z)) ez⟩
        · rw [decide_eq_false c1]
          exact iteF (hP _ _ ⟨gd, gs.reverse, _, _, _, _, _, _, _, _, _, _, rfl, g1, List.reverse_perm gs, pot14, But.refl⟩)
    · rintro σ H1 ⟨x4, x5, x6, x7, x8, x9, x10, x11, x12, x13, x14, x15, x16, x17, x18, x19, rfl, pot1, b1⟩
      have eG1 := b1 _ _ nG eG
      have hm1 : MovesAt C H1 m gs rs := hm.but pot b1
      have gn : ∀ x ∈ gs, x ∈ names := fit.g.sub
      obtain ⟨g0, gt, eg⟩ : ∃ g0 gt, gs = g0 :: gt := by cases gs with | nil => simp at l1 | cons a r => exact ⟨a, r, rfl⟩
      have mg0 : g0 ∈ gs := by rw [eg]; exact List.mem_cons_self ..
      -- zero
      refine ⟨_, rfl, G, rfl, ⟨_, SqL.of eG1⟩, fun U nU => ?_⟩
      refine lc_it (walk_list (K := K) (a := G) (xs := gs.map V.str)) (fun i H' => Same H1 H' ∧ ∃ ps : List Addr, H' U = some (.lst (ps.map V.ref)) ∧ PrsI H' ps ((gs.take i).map fun x => (x, (0 : Int))) ∧ ps.length ≤ i) ⟨same_new (Same.refl' _) nU, [], upd_same, .nil, Nat.le_refl _⟩ (fun i H' _ ⟨z, _⟩ => SqL.of (z _ _ eG1)) ?_ ?_
      · rintro k x H2 H3 hk ⟨s2, ps, e2, pr2, lp⟩ ⟨rfl, hx⟩
        obtain ⟨y, hy, rfl⟩ := get_map hx
        rw [List.length_map] at hk
        refine ⟨rfl, yes_go ?_⟩
        refine ⟨_, rfl, by show 2 ≤ sizeLine; omega, fun t H4 n4 e4 s4 => ?_⟩
        have e4L := s4 _ _ e2
        refine ⟨_, e4L, by rw [List.length_map]; omega, same_but (s2.trans s4) But.refl.upd nU, ps ++ [t], by rw [upd_same, List.map_append]; rfl, ?_, by simp; omega⟩
        rw [take_more hy, List.map_append]
        exact snocP (prsI_but (prsI_same pr2 s4) e4L But.refl.upd) (by show upd _ _ _ t = _; rw [upd_ne (ne_some n4 e2)]; exact e4)
      rintro H2 ⟨s2, ps, e2, pr2, lp⟩
      rw [List.length_map, List.take_length] at pr2
      refine ⟨U, ps, _, rfl, SqL.of e2, prsI_kv pr2, fun zd H3 n3 e3 s3 => ?_⟩
      rw [show kiK (gs.map fun x => (x, (0 : Int))) = kvD gs zV by unfold kiK kvD; rw [List.map_map]; rfl, merge_kvD fit.g.nd] at e3
      have s13 := s2.trans s3
      have lz : (kvD gs zV).length = gs.length := List.length_map ..
      -- odd
      refine ⟨by show 0 ≤ sizeLine; omega, fun o1 H4 n4 e4 s4 => ?_⟩
      refine ⟨by show 0 ≤ sizeLine; omega, fun o2 H5 n5 e5 s5 => ?_⟩
      have e5z := (s4.trans s5) _ _ e3
      refine ⟨_, rfl, zd, _, rfl, e5z, fun H6 o3 t6 s6 n6 nt6 nin6 e6 pr6 => ?_⟩
      have S6 : Same H5 H6 := fun a o e => s6 _ _ e
      refine ⟨_, rfl, zd, _, rfl, S6 _ _ e5z, fun H7 L7 t7 s7 n7 nt7 nin7 e7 pr7 => ?_⟩
      have S7 : Same H6 H7 := fun a o e => s7 _ _ e
      refine ⟨by show 2 ≤ sizeLine; omega, fun tn H8 n8 e8 s8 => ⟨by show 1 ≤ sizeLine; omega, fun q1 H9 n9 e9 s9 => ?_⟩⟩
      have l7 := Paired.length pr7
      refine ⟨L7, q1, _, _, rfl, rfl, (s8.trans s9) _ _ e7, e9, by rw [List.length_map]; show t7.length + 1 ≤ sizeLine; omega, fun Lw H10 n10 e10 s10 => ?_⟩
      have s810 := (s8.trans s9).trans s10
      have it7 : Its H10 (t7 ++ [tn]) (kvD gs zV ++ [(Sum.inr ("zzz" : Str), V.int 0)]) := snocP (its_same pr7 s810) (s10 _ _ (s9 _ _ e8))
      refine ⟨Lw, t7 ++ [tn], _, rfl, SqL.of (by rw [e10]; simp), its_sq it7, fun o4 H11 n11 e11 s11 => ?_⟩
      rw [merge_zzz fit.g.nd gn] at e11
      have s611 := S7.trans (s810.trans s11)
      refine ⟨by show 8 ≤ sizeLine; omega, fun O H12 n12 e12 s12 => ?_⟩
      have s412 : Same H4 H12 := s5.trans (S6.trans (s611.trans s12))
      have s512 : Same H5 H12 := S6.trans (s611.trans s12)
      have s612 := s611.trans s12
      have S12 : Same H1 H12 := s13.trans (s4.trans s412)
      have jv12 : ∀ x ∈ [V.non, V.int 0, V.str ("" : Str), V.ref o1, V.ref o2, V.ref o3, V.ref o4, V.bl true], JV H12 gs x := by
        intro x hx
        rcases List.mem_cons.mp hx with rfl | hx
        · exact .no .non (by decide)
        rcases List.mem_cons.mp hx with rfl | hx
        · exact .no (.int _) (by decide)
        rcases List.mem_cons.mp hx with rfl | hx
        · exact .no (.str _) (by decide)
        rcases List.mem_cons.mp hx with rfl | hx
        · exact .no (.lst (s412 _ _ e4)) (by decide)
        rcases List.mem_cons.mp hx with rfl | hx
        · exact .no (.tup (s512 _ _ e5)) (by decide)
        rcases List.mem_cons.mp hx with rfl | hx
        · exact .no (.lst (s612 _ _ e6)) (by decide)
        rcases List.mem_cons.mp hx with rfl | hx
        · exact jv_zzz gn (s12 _ _ e11) (by omega)
        rw [List.mem_singleton.mp hx]
        exact .no (.bl _) (by decide)
      have e12z := s512 _ _ e5z
      have e12G := S12 _ _ eG1
      have nO : H1 O = none := (s13.trans (s4.trans (s5.trans (S6.trans s611)))).free n12
      -- extend by four
      refine ⟨_, rfl, .inl ⟨rfl, _, SqL.of e12⟩, ?_⟩
      refine ⟨by show 1 ≤ sizeLine; omega, fun z0 H13 n13 e13 s13' => ⟨by show 4 ≤ sizeLine; omega, fun Th H14 n14 e14 s14 => ?_⟩⟩
      refine ⟨Th, rfl, ⟨_, SqL.of e14⟩, fun V1 nV1 => ?_⟩
      have s1214 := s13'.trans s14
      have kdt : ∀ x ∈ [V.non, V.bl true, V.str ("0" : Str), V.ref z0], ∃ n, Kd H14 x n ∧ n ≠ "int" := by
        intro x hx
        rcases List.mem_cons.mp hx with rfl | hx
        · exact ⟨_, .non, by decide⟩
        rcases List.mem_cons.mp hx with rfl | hx
        · exact ⟨_, .bl _, by decide⟩
        rcases List.mem_cons.mp hx with rfl | hx
        · exact ⟨_, .str _, by decide⟩
        rw [List.mem_singleton.mp hx]
        exact ⟨_, .lst (s14 _ _ e13), by decide⟩
      refine lc_it (walk_list (K := K) (a := Th) (xs := [V.non, V.bl true, V.str ("0" : Str), V.ref z0])) (fun i H' => Same H14 H' ∧ ∃ ds : List V, H' V1 = some (.lst ds) ∧ (∀ x ∈ ds, JV H' gs x) ∧ ds.length ≤ i) ⟨same_new (Same.refl' _) nV1, [], upd_same, (fun x hx => absurd hx List.not_mem_nil), Nat.le_refl _⟩ (fun i H' _ ⟨z, _⟩ => SqL.of (z _ _ e14)) ?_ ?_
      · rintro k x J1 J2 hk ⟨s15, ds, e15, jd, ld⟩ ⟨rfl, hx⟩
        obtain ⟨nn, kx, nx⟩ := kdt x (List.mem_of_getElem? hx)
        have hk4 : k < 4 := hk
        refine ⟨rfl, yes_go ?_⟩
        refine ⟨_, rfl, zd, _, rfl, (s1214.trans s15) _ _ e12z, fun J3 Lj tj sj nj ntj ninj ej prj => ?_⟩
        have s3 : Same J2 J3 := fun a o e => sj _ _ e
        refine ⟨_, rfl, G, _, 0, .str g0, rfl, rfl, SqL.of ((s1214.trans (s15.trans s3)) _ _ e12G), by rw [eg]; exact atI_nat (i := 0) rfl, _, rfl, by show 2 ≤ sizeLine; omega, fun tj1 J4 n4' e4' s4' => ⟨by show 1 ≤ sizeLine; omega, fun q2 J5 n5' e5' s5' => ?_⟩⟩
        have lj := Paired.length prj
        refine ⟨Lj, q2, _, _, rfl, rfl, (s4'.trans s5') _ _ ej, e5', by rw [List.length_map]; show tj.length + 1 ≤ sizeLine; omega, fun Lk J6 n6' e6' s6' => ?_⟩
        have s36 := (s4'.trans s5').trans s6'
        have itj : Its J6 (tj ++ [tj1]) (kvD gs zV ++ [(Sum.inr g0, x)]) := snocP (its_same prj s36) (s6' _ _ (s5' _ _ e4'))
        refine ⟨Lk, tj ++ [tj1], _, rfl, SqL.of (by rw [e6']; simp), its_sq itj, fun dj J7 n7' e7' s7' => ?_⟩
        rw [merge_head fit.g.nd mg0] at e7'
        have s27 := (s3.trans s36).trans s7'
        have e7V := s27 _ _ e15
        refine ⟨_, e7V, by omega, same_but (s15.trans s27) But.refl.upd nV1, ds ++ [.ref dj], by rw [upd_same], fun y hy => ?_, by simp; omega⟩
        refine JV.but (ys := ds ++ [.ref dj]) ?_ e7V upd_same But.refl.upd
        rcases List.mem_append.mp hy with hy | hy
        · exact (jd y hy).same s27
        · rw [List.mem_singleton.mp hy]
          exact jv_head e7' mg0 l2 (kx.same (s15.trans s27)) nx
      rintro H15 ⟨s15, ds, e15, jd, ld⟩
      have ld : ds.length ≤ 4 := ld
      have s1215 := s1214.trans s15
      have nVO : V1 ≠ O := ne_some nV1 (s1214 _ _ e12)
      refine ⟨O, V1, _, _, rfl, rfl, s1215 _ _ e12, e15, by show 8 + ds.length ≤ sizeLine; omega, fun H16 e16 b16 => ?_⟩
      have s116 : Same H1 H16 := same_but (S12.trans s1215) b16 nO
      have e15O := s1215 _ _ e12
      have jv16 : ∀ x ∈ [V.non, V.int 0, V.str ("" : Str), V.ref o1, V.ref o2, V.ref o3, V.ref o4, V.bl true] ++ ds, JV H16 gs x := fun x hx => by
        refine JV.but ?_ e15O e16 b16
        rcases List.mem_append.mp hx with hx | hx
        · exact (jv12 x hx).same s1215
        · exact jd x hx
      have l16 : ([V.non, V.int 0, V.str ("" : Str), V.ref o1, V.ref o2, V.ref o3, V.ref o4, V.bl true] ++ ds).length ≤ 12 := by rw [List.length_append]; show 8 + ds.length ≤ 12; omega
      generalize [V.non, V.int 0, V.str ("" : Str), V.ref o1, V.ref o2, V.ref o3, V.ref o4, V.bl true] ++ ds = xs at e16 jv16 l16
      have e16z : H16 zd = some (.dK (kvD gs zV)) := b16 _ _ (ne_of (s1215 _ _ e12z) e15O (by intro z; cases z)) (s1215 _ _ e12z)
      have lgt : gt.length + 1 = gs.length := by rw [eg]; rfl
      have ndt : gt.Nodup := by have := fit.g.nd; rw [eg] at this; exact (List.nodup_cons.mp this).2
      have gnt : ∀ x ∈ gt, x ∈ names := fun x hx => gn x (by rw [eg]; exact List.mem_cons_of_mem _ hx)
      have drop1 : (kvD gs zV).drop 1 = kvD gt zV := by rw [eg]; rfl
      have cutt : ∀ ts : List Addr, ts.length = (kvD gs zV).length → cutV (ts.map V.ref) (some (1 : Int)) none = (ts.drop 1).map V.ref := fun ts h => by
        have z := cut_drop (xs := ts.map V.ref) (i := 1) (by rw [List.length_map]; omega)
        rw [show ((1 : Nat) : Int) = 1 from rfl] at z
        rw [z, List.map_drop]
      -- one less
      refine ⟨_, rfl, .inl ⟨rfl, _, SqL.of e16⟩, ?_⟩
      refine ⟨_, rfl, zd, _, rfl, e16z, fun H17 L17 t17 s17 n17 nt17 nin17 e17 pr17 => ?_⟩
      have S17 : Same H16 H17 := fun a o e => s17 _ _ e
      refine ⟨1, rfl, L17, _, rfl, SqL.of e17, fun Ls H18 n18 e18 s18 => ?_⟩
      rw [cutt _ (Paired.length pr17)] at e18
      have it18 := its_tail (its_same pr17 s18)
      rw [drop1] at it18
      refine ⟨Ls, t17.drop 1, _, rfl, SqL.of e18, its_sq it18, fun o5 H19 n19 e19 s19 => ?_⟩
      rw [merge_kvD ndt] at e19
      have s1619 := (S17.trans s18).trans s19
      have e19O := s1619 _ _ e16
      refine ⟨O, _, _, rfl, rfl, e19O, by omega, fun H20 e20 b20 => ?_⟩
      have s120 : Same H1 H20 := same_but (s116.trans s1619) b20 nO
      have jv20 : ∀ x ∈ xs ++ [V.ref o5], JV H20 gs x := fun x hx => by
        refine JV.but ?_ e19O e20 b20
        rcases List.mem_append.mp hx with hx | hx
        · exact (jv16 x hx).same s1619
        · rw [List.mem_singleton.mp hx]
          exact jv_short e19 lgt l2
      have e20z : H20 zd = some (.dK (kvD gs zV)) := b20 _ _ (ne_of (s1619 _ _ e16z) e19O (by intro z; cases z)) (s1619 _ _ e16z)
      -- one exchanged
      refine ⟨_, rfl, .inl ⟨rfl, _, SqL.of e20⟩, ?_⟩
      refine ⟨_, rfl, zd, _, rfl, e20z, fun H21 L21 t21 s21 n21 nt21 nin21 e21 pr21 => ?_⟩
      have S21 : Same H20 H21 := fun a o e => s21 _ _ e
      refine ⟨1, rfl, L21, _, rfl, SqL.of e21, fun Lt H22 n22 e22 s22 => ?_⟩
      rw [cutt _ (Paired.length pr21)] at e22
      have it22 := its_tail (its_same pr21 s22)
      rw [drop1] at it22
      refine ⟨by show 2 ≤ sizeLine; omega, fun tn2 H23 n23 e23 s23 => ⟨by show 1 ≤ sizeLine; omega, fun q3 H24 n24 e24 s24 => ?_⟩⟩
      have l21 := Paired.length pr21
      refine ⟨Lt, q3, _, _, rfl, rfl, (s23.trans s24) _ _ e22, e24, by rw [List.length_map, List.length_drop]; show _ + 1 ≤ sizeLine; omega, fun Lu H25 n25 e25 s25 => ?_⟩
      have s2225 := (s23.trans s24).trans s25
      have it25 : Its H25 (t21.drop 1 ++ [tn2]) (kvD gt zV ++ [(Sum.inr ("zzz" : Str), V.int 0)]) := snocP (its_same it22 s2225) (s25 _ _ (s24 _ _ e23))
      refine ⟨Lu, t21.drop 1 ++ [tn2], _, rfl, SqL.of (by rw [e25]; simp), its_sq it25, fun o6 H26 n26 e26 s26 => ?_⟩
      rw [merge_zzz ndt gnt] at e26
      have s2026 := (S21.trans s22).trans (s2225.trans s26)
      have e26O := s2026 _ _ e20
      refine ⟨O, _, _, rfl, rfl, e26O, by rw [List.length_append]; show _ + 1 < sizeLine; omega, fun H27 e27 b27 => ?_⟩
      have s127 : Same H1 H27 := same_but (s120.trans s2026) b27 nO
      have jv27 : ∀ x ∈ xs ++ [V.ref o5] ++ [V.ref o6], JV H27 gs x := fun x hx => by
        refine JV.but ?_ e26O e27 b27
        rcases List.mem_append.mp hx with hx | hx
        · exact (jv20 x hx).same s2026
        · rw [List.mem_singleton.mp hx]
          exact jv_zzz gn e26 (by omega)
      have l27 : (xs ++ [V.ref o5] ++ [V.ref o6]).length ≤ 14 := by rw [List.length_append, List.length_append]; show xs.length + 1 + 1 ≤ 14; omega
      generalize xs ++ [V.ref o5] ++ [V.ref o6] = ys at e27 jv27 l27
      -- none is a move
      refine ⟨_, rfl, O, rfl, ⟨_, SqL.of e27⟩, fun V2 nV2 => ?_⟩
      refine lc_it (walk_list (K := K) (a := O) (xs := ys)) (fun i H' => Same H27 H' ∧ H' V2 = some (.lst ((List.replicate i false).map V.bl))) ⟨same_new (Same.refl' _) nV2, upd_same⟩ (fun i H' _ ⟨z, _⟩ => SqL.of (z _ _ e27)) ?_ ?_
      · rintro k x J1 J2 hk ⟨s28, e28⟩ ⟨rfl, hx⟩
        refine ⟨rfl, yes_go ?_⟩
        refine ⟨_, rfl, _, rfl, rfl, rfl, m, x, gs, rs, rfl, hm1.same (s127.trans s28), fit, (jv27 x (List.mem_of_getElem? hx)).same s28, fun J3 s29 => ?_⟩
        refine ⟨_, s29 _ _ e28, small1000 (by rw [List.length_map, List.length_replicate]; omega), same_but (s28.trans s29) But.refl.upd nV2, ?_⟩
        rw [upd_same, List.replicate_succ', List.map_append]
        rfl
      rintro H28 ⟨s28, e28⟩
      refine ⟨V2, _, rfl, SqL.of e28, _, rfl, ?_⟩
      have z : (List.replicate ys.length false).any id = false := by simp
      show Q (V.bl (!(List.replicate ys.length false).any id)) H28
      rw [z]
      have s128 := s127.trans s28
      exact q H28 (pot_same pot1 s128) (b1.trans (But.of s128))
end
end KM

set_option Elab.async false
set_option linter.all false
set_option maxRecDepth 100000
set_option maxHeartbeats 4000000
namespace KM
open PySem PySem.Spec PyProof.Rows L2 GL
/-! lists beside a pot -/
theorem lsts_butp {H H' : Hp} {p : Addr} {as : List Addr} {ls : List (List Nat)} (h : LstsAt H as ls) (n : ∀ a ∈ as, a ≠ p) (b : But p H H') : LstsAt H' as ls := by
  induction h with
  | nil => exact .nil
  | @cons a l as ls ha _ ih => exact .cons (b _ _ (n a (List.mem_cons_self ..)) ha) (ih fun c hc => n c (List.mem_cons_of_mem _ hc))
structure GoodL (n : Nat) (l : List Nat) : Prop where
  nn : l ≠ []
  lt : ∀ j ∈ l, j < n
  l5 : l.length ≤ 5
theorem and_join {c : Bool} {tb : TE} {σ : L2.St} {H : Hp} {Qv : V → Hp → Prop} (P : V → Hp → Prop) (hQ : ∀ v Hx, P v Hx → Qv v Hx) (h1 : (∀ v Hx, P v Hx → Qv v Hx) → c = true → tb σ H Qv) (h2 : c = false → P (.bl false) H) : if c = true then tb σ H Qv else Qv (.bl false) H := by
  cases c with
  | true => exact iteT (h1 hQ rfl)
  | false => exact iteF (hQ _ _ (h2 rfl))
theorem chs_good {rs : List Row} {k : Nat} (k5 : k ≤ 5) {l : List Nat} (h : l ∈ KN.chs rs k) : GoodL rs.length l := by
  obtain ⟨a, b, p, q, s, w⟩ := KN.mem_chs.mp h
  exact ⟨a, w.lt, by omega⟩
def clsd (rs : List Row) (l : List Nat) : Bool := decide (KN.headFrom rs l = KN.lastTo rs l)
theorem cut1 {k : V} {t : List V} : cutV (k :: t) (some (1 : Int)) none = t := by
  have z := cut_drop (xs := k :: t) (i := 1) (by simp)
  rw [show ((1 : Nat) : Int) = 1 from rfl] at z
  rw [z]
  rfl
theorem cut01 {k : V} {t : List V} : cutV (k :: t) none (some (1 : Int)) = [k] := by
  have z := cut_take (xs := k :: t) (i := 1) (by simp)
  rw [show ((1 : Nat) : Int) = 1 from rfl] at z
  rw [z]
  rfl
end KM
namespace KM
open PySem PySem.Spec PyProof.Rows L2 GL
theorem if_joinC {c : Bool} {a b : TE} {σ : L2.St} {H : Hp} {Qv : V → Hp → Prop} (P : V → Hp → Prop) (hQ : ∀ v Hx, P v Hx → Qv v Hx) (ha : (∀ v Hx, P v Hx → Qv v Hx) → c = true → a σ H Qv) (hb : (∀ v Hx, P v Hx → Qv v Hx) → c = false → b σ H Qv) : if c = true then a σ H Qv else b σ H Qv := by
  cases c with
  | false => exact iteF (hb hQ rfl)
  | true => exact iteT (ha hQ rfl)
theorem zip_at {α β : Type} {l : List α} {m : List β} {i : Nat} {a : α} {b : β} (h1 : l[i]? = some a) (h2 : m[i]? = some b) : (l.zip m)[i]? = some (a, b) := by
  rw [List.getElem?_zip_eq_some]
  exact ⟨h1, h2⟩
theorem kd_nats {H : Hp} {l : List Nat} : ∀ y ∈ l.map nI, ∃ n, Kd H y n := fun y hy => by
  obtain ⟨k, _, rfl⟩ := List.mem_map.mp hy
  exact ⟨_, .int _⟩
theorem okPos_len {n : Nat} : okPos n (nI n) = false := by
  show (decide ((0 : Int) ≤ (n : Int)) && decide ((n : Int) < (n : Int))) = false
  rw [decide_eq_false (by omega : ¬ ((n : Int) < (n : Int)))]
  simp
end KM
namespace KM
open PySem PySem.Spec PyProof.Rows L2 GL
theorem RgV.same {H H' : Hp} {rs : List Row} {x : V} {b : Bool} (h : RgV H rs x b) (s : Same H H') : RgV H' rs x b := by
  cases h with
  | no a c => exact .no (a.same s) c
  | bad a c d e =>
    refine .bad (a.same s) (fun y hy => ?_) d e
    obtain ⟨n, k⟩ := c y hy
    exact ⟨n, k.same s⟩
  | pos a c d e f => exact .pos (a.same s) c d e f
end KM

set_option Elab.async false
set_option linter.all false
set_option maxRecDepth 100000
set_option maxHeartbeats 4000000
namespace KM
open PySem PySem.Spec PyProof.Rows L2 GL
/-! lists of positions right, by the law -/
abbrev sLr : Stmt := top 71
abbrev nLr : List Str := ["_law_pot_here", "_law_moves", "_law_rows", "_law_chains_here", "_law_some", "_law_closed", "_law_turn", "_law_one", "_law_ends", "_law_due", "_law_bent", "_law_spot", "_law_near", "_law_far", "_law_at", "_law_thing"]
theorem scLr : FnScope nLr ["_law_pot_here", "_law_moves", "_law_rows", "_law_chains_here"] (defScope sLr) := ⟨rfl, rfl, rfl, by decide +kernel, rfl, by decide +kernel, by decide +kernel⟩
abbrev rStrI : List V → Hp → VK → Prop := fun xs H Q => ∃ i, xs = [.int i] ∧ i.natAbs.log2 < 1920 ∧ Q (.str (toString i)) H
def spLr (C : Addr) : Sp := fun vs H Q _ => ∃ (p m B L : Addr) (gs : List Str) (rs : List Row) (as ls : List Addr) (k : Nat), vs = [.ref p, .ref m, .ref B, .ref L] ∧ PotAt H p ∧ MovesAt C H m gs rs ∧ Fit gs rs ∧ rs.length ≤ 7 ∧ H B = some (.lst (as.map V.ref)) ∧ RowsIn H as rs ∧
  H L = some (.lst (ls.map V.ref)) ∧ LstsAt H ls (KN.chs rs k) ∧ k ≤ 5 ∧ (∀ a ∈ ls, a ≠ p) ∧ L ≠ p ∧ ∀ H', PotAt H' p → But p H H' → Q (.bl true) H'
section
variable {P : Program} {w : World} {K : PySem.W.Frag} {mg : Str → Option Value} {base : Heap} {C R : Addr}
theorem ok_listsright {f : Addr} {fd : FuncData} (F : Fun K "_law_lists_right" "_law_lists_right" sLr f fd) (T : Bi mg) (Z : Bz mg) (D : Has P w K mg base "_law_draw" 1 ["_law_pot_here", "_law_many"] spDraw) (PK : Has P w K mg base "_law_pick" 2 ["_law_pot_here", "_law_some"] (spPick K))
    (SL : Has P w K mg base "_law_sum" 1 ["_law_rows", "_law_some"] (spSl K)) (IR : Has P w K mg base "is_ring" 3 ["moves", "value"] (spIr C)) (IRK : HasK P w K mg base "is_ring" 3 ["moves", "value"] (spIr C) ["value", "moves"] (fun _ zs => zs.reverse)) :
    FnG P w K mg base CX0 4 f fd ["_law_pot_here", "_law_moves", "_law_rows", "_law_chains_here"] (spLr C) := by
  refine okG F scLr (fun vs H Q E h => ?_) (fun cdv A out s H vs Q E g hr h => ?_)
  · obtain ⟨p, m, B, L, gs, rs, as, ls, k, rfl, _⟩ := h
    rfl
  · obtain ⟨p, m, B, L, gs, rs, as, ls, k, rfl, pot, hm, fit, l7, eB, rows, eL, lL, k5, nls, nLp, q⟩ := h
    have hr3 : Room 3 _ := hr
    have hr2 : Room 2 _ := hr.mono (by decide)
    have hr1 : Room 1 _ := hr.mono (by decide)
    have hu := hr.units
    have szl := sizeLine_eq
    obtain ⟨pa, pb, ep, _⟩ := id pot
    have l2 := fit.g.l2
    have good := fit.r
    have gg := fit.g
    have la : (as.map V.ref).length = rs.length := by rw [List.length_map]; exact Paired.length rows
    have nB : B ≠ p := ne_of eB ep (by intro z; cases as with | nil => cases z | cons a r => cases z)
    have ll := Paired.length lL
    have lm : (ls.map V.ref).length = (KN.chs rs k).length := by rw [List.length_map, ll]
    have cl := KN.chs_len (C := rs) l7 k5
    have p5 : 7 ^ k ≤ 16807 := Nat.pow_le_pow_right (n := 7) (by decide) k5
    refine ⟨_, (pss_cons (ps_set (i := 5) scLr.nd rfl (.inr rfl) (pe_lc (own := [("_law_some", 4)]) (g := gName 4) (tt := tTest (tOp (rEqD K) (tOp (rIxT K) (tOp (rIxL K) (tVar 2) (tOp (rIxL K) (tVar 4) (tC (.int 0)))) (tC (.int 0))) (tOp (rIxT K) (tOp (rIxL K) (tVar 2) (tOp (rIxL K) (tVar 4) (tUn (rU fun i => V.int (-i)) (tC (.int 1))))) (tC (.int 1))))) (te := tVar 4) (by rfl) scLr.nd (pi_list (pv 3)) (blkOk_by (own := [("_law_some", 4)]) (N := nLr) (sc := defScope sLr) (by decide +kernel)) (fun _ _ _ _ _ => by exact (pg_name (i := 4) scLr.nd rfl (.inl rfl))) (fun _ _ _ _ _ => by exact (pts_one (pt_cmpR (op_eqD hu) (pe_ix ix_tup (pe_ix ix_list (pv 2) (pe_ix ix_list (pv 4) pe_int (fun _ _ => rfl)) (fun _ _ => rfl)) pe_int (fun _ _ => rfl)) (pe_ix ix_tup (pe_ix ix_list (pv 2) (pe_ix ix_list (pv 4) (pe_un un_neg pe_int) (fun _ _ => rfl)) (fun _ _ => rfl)) pe_int (fun _ _ => rfl)) (nomark _)))) (fun _ _ _ _ _ => by exact (pv 4))))
      (pss_cons (ps_setLc (i := 4) (own := [("_law_turn", 6)]) (g := gName 6) (tt := tYes) (te := (tGo (["_law_pot_here", "_law_some"] : List Str).length 0 (spPick K) (fun vs _ => vs) E0 (tCons (tVar 0) (tCons (tVar 5) tNil)) tNil)) rfl scLr.nd rfl rfl (sw_true rfl rfl rfl (by decide +kernel)) (pi_range1 (by rfl) T.range (pa_cons (pe_ifExp (pt_cmpR (op_neD hu) (pv 5) (pe_lstL pa_nil) (nomark _)) pe_int pe_int) pa_nil)) (blkOk_by (own := [("_law_turn", 6)]) (N := nLr) (sc := defScope sLr) (by decide +kernel)) (fun _ _ _ _ _ => by exact (pg_name (i := 6) scLr.nd rfl (.inl rfl))) (fun _ _ _ _ _ => pts_nil) (fun _ _ _ _ _ => by exact (pe_has PK g hr2 (by rfl) (pa_cons (pv 0) (pa_cons (pv 5) pa_nil)))))
      (pss_cons (ps_for PassesOwn.never rfl (pi_range1 (by rfl) T.range (pa_cons (pe_ifExp (pt_cmpR (op_neD hu) (pv 2) (pe_lstL pa_nil) (nomark _)) pe_int pe_int) pa_nil)) (pg_name (i := 6) scLr.nd rfl (.inl rfl))
      (pss_one (ps_expr (pe_bm PySem.F.plainAttrs_list PySem.F.slot_list_append PySem.F.type_list_append mt_appL (pv 4) (pa_cons (pe_lc (own := [("_law_spot", 11)]) (g := gName 11) (tt := tYes) (te := (tGo (["_law_pot_here", "_law_many"] : List Str).length 0 (spDraw) (fun vs _ => vs) E0 (tCons (tVar 0) (tCons (tCB (rLenQ K) (tCons (tVar 2) tNil)) tNil)) tNil)) (by rfl) scLr.nd (pi_range1 (by rfl) T.range (pa_cons (pe_op op_add pe_int (pe_has D g hr1 (by rfl) (pa_cons (pv 0) (pa_cons pe_int pa_nil)))) pa_nil)) (blkOk_by (own := [("_law_spot", 11)]) (N := nLr) (sc := defScope sLr) (by decide +kernel)) (fun _ _ _ _ _ => by exact (pg_name (i := 11) scLr.nd rfl (.inl rfl))) (fun _ _ _ _ _ => pts_nil) (fun _ _ _ _ _ => by exact (pe_has D g hr1 (by rfl) (pa_cons (pv 0) (pa_cons (pe_callB call_len_seq (by rfl) T.len PySem.boot_len (pa_cons (pv 2) pa_nil)) pa_nil))))) pa_nil)))))
      (pss_cons (ps_for PassesOwn.never rfl (pi_list (pv 4)) (pg_name (i := 7) scLr.nd rfl (.inl rfl))
      (pss_cons (ps_setLc (i := 8) (own := [("_law_near", 12), ("_law_far", 13)]) (g := gTup K 2 (gCons (gName 12) (gCons (gName 13) gNil))) (tt := tYes) (te := tOp (rEqD K) (tOp (rIxT K) (tOp (rIxL K) (tVar 2) (tVar 12)) (tC (.int 1))) (tOp (rIxT K) (tOp (rIxL K) (tVar 2) (tVar 13)) (tC (.int 0)))) rfl scLr.nd rfl rfl (sw_true rfl rfl rfl (by decide +kernel)) (pi_zip (by rfl) Z.zip (pa_cons (pv 7) (pa_cons (pe_op op_catL (pe_slice slcL (pv 7) (po_some pe_int) po_none) (pe_slice slcL (pv 7) po_none (po_some pe_int))) pa_nil))) (blkOk_by (own := [("_law_near", 12), ("_law_far", 13)]) (N := nLr) (sc := defScope sLr) (by decide +kernel)) (fun _ _ _ _ _ => by exact (pg_tup rfl (pgs_cons (pg_name (i := 12) scLr.nd rfl (.inl rfl)) (pgs_cons (pg_name (i := 13) scLr.nd rfl (.inl rfl)) pgs_nil)))) (fun _ _ _ _ _ => pts_nil) (fun _ _ _ _ _ => by exact (pe_cmpR (op_eqD hu) (pe_ix ix_tup (pe_ix ix_list (pv 2) (pv 12) (fun _ _ => rfl)) pe_int (fun _ _ => rfl)) (pe_ix ix_tup (pe_ix ix_list (pv 2) (pv 13) (fun _ _ => rfl)) pe_int (fun _ _ => rfl)) (nomark _))))
      (pss_cons (ps_set (i := 9) scLr.nd rfl (.inl rfl) (pe_and (pe_callB (cr_all (by rfl)) (by rfl) T.all (by decide +kernel) (pa_cons (pv 8) pa_nil)) (pe_one (pe_cmpR op_lt (pe_has SL g hr1 (by rfl) (pa_cons (pv 2) (pa_cons (pv 7) pa_nil))) pe_int (nomark _)))))
      (pss_cons (ps_if (pt_cmpR op_ne (pe_callB (call_repr_D g hu) (by rfl) T.repr (by decide +kernel) (pa_cons (pe_lstL (pa_cons (pe_has IR g hr3 (by rfl) (pa_cons (pv 1) (pa_cons (pv 7) pa_nil))) (pa_cons (pe_hasK IRK g hr3 (by rfl) (pk_cons (pe_callTy call_tupL (by rfl) T.tuple (by decide +kernel) (pa_cons (pv 7) pa_nil)) (pk_cons (pv 1) pk_nil))) pa_nil))) pa_nil)) (pe_callB (call_repr_D g hu) (by rfl) T.repr (by decide +kernel) (pa_cons (pe_lstL (pa_cons (pv 9) (pa_cons (pv 9) pa_nil))) pa_nil)) (nomark _)) (pss_one (ps_ret pe_bl)) pss_nil)
      (pss_cons (ps_set (i := 10) scLr.nd rfl (.inl rfl) (pe_lstL (pa_cons (pe_op op_catL (pv 7) (pe_lstL (pa_cons pe_non pa_nil))) (pa_cons (pe_lc (own := [("_law_at", 14)]) (g := gName 14) (tt := tYes) (te := tCB rStrI (tCons (tVar 14) tNil)) (by rfl) scLr.nd (pi_list (pv 7)) (blkOk_by (own := [("_law_at", 14)]) (N := nLr) (sc := defScope sLr) (by decide +kernel)) (fun _ _ _ _ _ => by exact (pg_name (i := 14) scLr.nd rfl (.inl rfl))) (fun _ _ _ _ _ => pts_nil) (fun _ _ _ _ _ => by exact (pe_callTy call_str_int (by rfl) T.str (by decide +kernel) (pa_cons (pv 14) pa_nil)))) (pa_cons (pe_op op_catL (pv 7) (pe_lstL (pa_cons (pe_callB call_len_seq (by rfl) T.len PySem.boot_len (pa_cons (pv 2) pa_nil)) pa_nil))) (pa_cons (pe_op op_catL (pe_lstL (pa_cons (pe_un un_neg pe_int) pa_nil)) (pv 7)) (pa_cons (pe_lc (own := [("_law_at", 14)]) (g := gName 14) (tt := tYes) (te := tOp rEq (tVar 14) (tC (.int 1))) (by rfl) scLr.nd (pi_list (pv 7)) (blkOk_by (own := [("_law_at", 14)]) (N := nLr) (sc := defScope sLr) (by decide +kernel)) (fun _ _ _ _ _ => by exact (pg_name (i := 14) scLr.nd rfl (.inl rfl))) (fun _ _ _ _ _ => pts_nil) (fun _ _ _ _ _ => by exact (pe_cmpR op_eq (pv 14) pe_int (nomark _)))) pa_nil)))))))
      (pss_one (ps_if (pt_val (pe_callB (cr_any (by rfl)) (by rfl) T.any (by decide +kernel) (pa_cons (pe_lc (own := [("_law_thing", 15)]) (g := gName 15) (tt := tYes) (te := (tGo (["moves", "value"] : List Str).length 0 (spIr C) (fun vs _ => vs) E0 (tCons (tVar 1) (tCons (tVar 15) tNil)) tNil)) (by rfl) scLr.nd (pi_list (pv 10)) (blkOk_by (own := [("_law_thing", 15)]) (N := nLr) (sc := defScope sLr) (by decide +kernel)) (fun _ _ _ _ _ => by exact (pg_name (i := 15) scLr.nd rfl (.inl rfl))) (fun _ _ _ _ _ => pts_nil) (fun _ _ _ _ _ => by exact (pe_has IR g hr3 (by rfl) (pa_cons (pv 1) (pa_cons (pv 15) pa_nil))))) pa_nil))) (pss_one (ps_ret pe_bl)) pss_nil)))))))
      (pss_one (ps_ret (pe_not (pe_callB (cr_any (by rfl)) (by rfl) T.any (by decide +kernel) (pa_cons (pe_lc (own := [("_law_thing", 15)]) (g := gName 15) (tt := tYes) (te := (tGo (["moves", "value"] : List Str).length 0 (spIr C) (fun vs _ => vs) E0 (tCons (tVar 1) (tCons (tVar 15) tNil)) tNil)) (by rfl) scLr.nd (pi_list (pe_lstL (pa_cons pe_non (pa_cons pe_int (pa_cons pe_str (pa_cons (pe_lstL pa_nil) (pa_cons (pe_tupL pa_nil) (pa_cons pe_dnewK (pa_cons pe_bl (pa_cons pe_str (pa_cons (pe_lstL (pa_cons (pe_lstL pa_nil) pa_nil)) (pa_cons (pe_disp (pps_cons pe_int pe_int pps_nil) rfl rfl (by simp) (by decide)) pa_nil)))))))))))) (blkOk_by (own := [("_law_thing", 15)]) (N := nLr) (sc := defScope sLr) (by decide +kernel)) (fun _ _ _ _ _ => by exact (pg_name (i := 15) scLr.nd rfl (.inl rfl))) (fun _ _ _ _ _ => pts_nil) (fun _ _ _ _ _ => by exact (pe_has IR g hr3 (by rfl) (pa_cons (pv 1) (pa_cons (pv 15) pa_nil))))) pa_nil))))))))), ?_⟩
    -- the closed ones
    refine ⟨_, rfl, L, rfl, ⟨_, SqL.of eL⟩, fun U nU => ?_⟩
    have nUp : U ≠ p := ne_some nU ep
    refine lc_it (walk_list (K := K) (a := L) (xs := ls.map V.ref)) (fun i H' => Same H H' ∧ ∃ vs : List Addr, H' U = some (.lst (vs.map V.ref)) ∧ LstsAt H' vs (((KN.chs rs k).take i).filter (clsd rs)) ∧ (∀ a ∈ vs, a ≠ p) ∧ vs.length ≤ i) ⟨same_new (Same.refl' _) nU, [], upd_same, .nil, (fun a ha => absurd ha List.not_mem_nil), Nat.le_refl _⟩ (fun i H' _ ⟨z, _⟩ => SqL.of (z _ _ eL)) ?_ ?_
    · rintro i x H3 H4 hi ⟨s3, vs, e3, l3, nv, vl⟩ ⟨rfl, hx⟩
      obtain ⟨a, l, rfl, ea, el, eal⟩ := lsts_at (lsts_same lL s3) hx
      have mem := List.mem_of_getElem? el
      obtain ⟨nl, ll5, pp, q2, s, pl⟩ := KN.mem_chs.mp mem
      rw [lm] at hi
      have hd := pl.headFrom nl
      have lt := pl.lastTo nl
      obtain ⟨l', ix, e1⟩ : ∃ l' i, l = l' ++ [i] := ⟨l.dropLast, l.getLast nl, (List.dropLast_concat_getLast nl).symm⟩
      obtain ⟨hx0, ht, e2⟩ : ∃ a r, l = a :: r := by cases l with | nil => exact absurd rfl nl | cons a r => exact ⟨a, r, rfl⟩
      have k1 : hx0 < rs.length := pl.lt _ (by rw [e2]; exact List.mem_cons_self ..)
      have k2 : ix < rs.length := pl.lt _ (by rw [e1]; simp)
      have r1 : rs[hx0]? = some rs[hx0] := List.getElem?_eq_getElem k1
      have r2 : rs[ix]? = some rs[ix] := List.getElem?_eq_getElem k2
      have rows3 := rows_same rows s3
      obtain ⟨t1, et1, rt1⟩ := row_at rows3 r1
      obtain ⟨t2, et2, rt2⟩ := row_at rows3 r2
      have g1 := good _ (List.mem_of_getElem? r1)
      have g2 := good _ (List.mem_of_getElem? r2)
      have d1 : pp = rs[hx0].1 := by
        rw [e2] at hd
        unfold KN.headFrom at hd
        rw [List.head?_cons, Option.bind_some, r1] at hd
        exact (Option.some.inj hd).symm
      have d2 : q2 = rs[ix].2.1 := by
        rw [e1] at lt
        unfold KN.lastTo at lt
        rw [List.getLast?_concat, Option.bind_some, r2] at lt
        exact (Option.some.inj lt).symm
      refine ⟨rfl, ?_⟩
      refine ⟨_, rfl, _, rfl, a, _, 0, nI hx0, rfl, rfl, SqL.of eal, by rw [e2]; exact atI_nat (i := 0) rfl, B, _, (hx0 : Int), .ref t1, rfl, rfl, SqL.of (s3 _ _ eB), atI_nat et1, t1, _, 0, oV rs[hx0].1, rfl, rfl, SqT.of rt1, rfl, ?_⟩
      refine ⟨_, rfl, _, rfl, _, rfl, a, _, -1, nI ix, rfl, rfl, SqL.of eal, by rw [e1, List.map_append]; exact atI_last, B, _, (ix : Int), .ref t2, rfl, rfl, SqL.of (s3 _ _ eB), atI_nat et2, t2, _, 1, oV rs[ix].2.1, rfl, rfl, SqT.of rt2, rfl, ?_⟩
      refine ⟨oD rs[hx0].1, oD rs[ix].2.1, dp_o _, dp_o _, shaped_o gg _ g1.one, shaped_o gg _ g2.two, _, rfl, ?_⟩
      have cb : clsd rs l = decide (pp = q2) := by
        unfold clsd
        rw [hd, lt]
        exact decide_eq_decide.mpr ⟨Option.some.inj, fun z => congrArg some z⟩
      rw [eqv_o, ← d1, ← d2, take_more el, List.filter_append]
      by_cases c : pp = q2
      · rw [decide_eq_true c] at cb ⊢
        refine iteT ?_
        rw [show [l].filter (clsd rs) = [l] by simp [cb]]
        refine ⟨_, rfl, _, e3, by rw [List.length_map]; omega, same_but s3 But.refl.upd nU, vs ++ [a], by rw [upd_same, List.map_append]; rfl, ?_, (fun c hc => (List.mem_append.mp hc).elim (nv c) fun z => by rw [List.mem_singleton.mp z]; exact nls a (List.mem_of_getElem? ea)), by simp; omega⟩
        have z1 := lsts_put l3 (fun z hz => chs_nn z (List.mem_of_mem_take (List.mem_filter.mp hz).1)) e3 (But.refl.upd (o := .lst (vs.map V.ref ++ [.ref a])))
        refine lsts_app z1 (.cons ?_ .nil)
        rw [upd_ne (fun z => ?_)]
        · exact eal
        · subst z
          rw [eal] at e3
          injection e3 with e3
          injection e3 with e3
          exact int_ref nl e3
      · rw [decide_eq_false c] at cb ⊢
        refine iteF ⟨s3, vs, e3, ?_, nv, by omega⟩
        rw [show [l].filter (clsd rs) = [] by simp [cb], List.append_nil]
        exact l3
    rintro H1 ⟨s1, vs, e1, l1, nv, vl⟩
    rw [lm, List.take_length] at l1
    rw [lm] at vl
    have gcl : ∀ l ∈ (KN.chs rs k).filter (clsd rs), GoodL rs.length l := fun l hl => chs_good k5 (List.mem_filter.mp hl).1
    generalize (KN.chs rs k).filter (clsd rs) = cls at l1 gcl
    have lv := Paired.length l1
    -- some: picked ones
    refine ⟨_, rfl, by show 0 ≤ sizeLine; omega, fun Z1 H2 n2 e2 s2 => ?_⟩
    refine ⟨lstsD cls, lstsD [], dp_lsts (SqL.of (s2 _ _ e1)) (lsts_same l1 s2), dp_lsts (as := []) (SqL.of e2) .nil, shaped_lsts _, shaped_lsts _, _, rfl, ?_⟩
    rw [eqv_lsts0]
    refine if_joinC (fun v Hx => ∃ n : Nat, v = nI n ∧ n ≤ 3 ∧ (n ≠ 0 → cls ≠ []) ∧ Hx = H2) ?_ ?_ ?_
    · rintro v Hx ⟨n, rfl, n3, nc, rfl⟩
      have s02 : Same H Hx := s1.trans s2
      have pot2 := pot_same pot s02
      have l12 := lsts_same l1 s2
      have e12 := s2 _ _ e1
      refine ⟨_, rfl, by omega, by omega, fun V1 nV => ?_⟩
      obtain ⟨pa2, pb2, ep2, _⟩ := id pot2
      have nVp : V1 ≠ p := ne_some nV ep2
      have nV0 : H V1 = none := s02.free nV
      refine lc_it (walk_range (lo := 0) (n := ((n : Nat) : Int).toNat)) (fun i H' => But p Hx H' ∧ PotAt H' p ∧ ∃ (ws : List Addr) (lss : List (List Nat)), H' V1 = some (.lst (ws.map V.ref)) ∧ LstsAt H' ws lss ∧ (∀ l ∈ lss, GoodL rs.length l) ∧ (∀ a ∈ ws, a ≠ p) ∧ ws.length ≤ i) ⟨But.of (same_new (Same.refl' _) nV), pot_same pot2 (same_new (Same.refl' _) nV), [], [], upd_same, .nil, (fun a ha => absurd ha List.not_mem_nil), (fun a ha => absurd ha List.not_mem_nil), Nat.le_refl _⟩ (fun _ _ _ _ => True.intro) ?_ ?_
      · rintro i x H3 H4 hi ⟨b3, pot3, ws, lss, e3, l3, g3, n3', ln3⟩ ⟨rfl, rfl⟩
        have hi : i < n := by omega
        refine ⟨rfl, yes_go ?_⟩
        refine ⟨_, rfl, _, rfl, rfl, rfl, p, U, _, rfl, pot3, SqL.of (b3 _ _ nUp e12), nUp, by rw [List.length_map, lv]; exact List.length_pos_iff.mpr (nc (by omega)), by rw [List.length_map]; omega, fun j x H5 hx pot5 b5 => ?_⟩
        have b15 := b3.trans b5
        obtain ⟨a, l, rfl, ea, el, eal⟩ := lsts_at (lsts_butp l12 nv b15) hx
        have e5 := b5 _ _ nVp e3
        have gl := gcl l (List.mem_of_getElem? el)
        refine ⟨_, e5, by rw [List.length_map]; omega, but_upd b15 nV, pot_off pot5 nVp.symm But.refl.upd, ws ++ [a], lss ++ [l], by rw [upd_same, List.map_append]; rfl, ?_, ?_, (fun c hc => (List.mem_append.mp hc).elim (n3' c) fun z => by rw [List.mem_singleton.mp z]; exact nv a (List.mem_of_getElem? ea)), by simp; omega⟩
        · refine lsts_app (lsts_put (lsts_butp l3 n3' b5) (fun z hz => (g3 z hz).nn) e5 But.refl.upd) (.cons ?_ .nil)
          rw [upd_ne (fun z => ?_)]
          · exact eal
          · subst z
            rw [eal] at e5
            injection e5 with e5
            injection e5 with e5
            exact int_ref gl.nn e5
        · intro z hz
          rcases List.mem_append.mp hz with hz | hz
          · exact g3 z hz
          · rw [List.mem_singleton.mp hz]
            exact gl
      rintro H3 ⟨b3, pot3, ws, lss, e3, l3, g3, n3', ln3⟩
      have ln3 : ws.length ≤ 3 := by omega
      have b03 : But p H H3 := (But.of s02).trans b3
      -- drawn ones behind them
      refine ⟨_, rfl, by show 0 ≤ sizeLine; omega, fun Z2 H4 n4 e4 s4 => ?_⟩
      have rows4 : RowsIn H4 as rs := rows_same (rows_but rows b03 ep) s4
      have eB4 := s4 _ _ (b03 _ _ nB eB)
      refine ⟨rowsD rs, rowsD [], dp_rows rows4 (SqL.of eB4), dp_rows (as := []) .nil (SqL.of e4), shaped_rows gg good, shaped_rows (rs := []) gg (fun r hr => absurd hr List.not_mem_nil), _, rfl, ?_⟩
      rw [eqv_rows]
      refine if_joinC (fun v Hx => ∃ n : Nat, v = nI n ∧ n ≤ 3 ∧ (n ≠ 0 → rs ≠ []) ∧ Hx = H4) ?_ ?_ ?_
      · rintro v Hy ⟨n', rfl, n33, nc', rfl⟩
        refine ⟨_, rfl, by omega, by omega, ?_⟩
        have b04 := b03.trans (But.of s4)
        refine for_range (n := ((n' : Nat) : Int).toNat) (fun i σ H' => ∃ (x6 x7 x8 x9 x10 x11 x12 x13 x14 x15 : Option V) (ws : List Addr) (lss : List (List Nat)), σ = [some (.ref p), some (.ref m), some (.ref B), some (.ref L), some (.ref V1), some (.ref U), x6, x7, x8, x9, x10, x11, x12, x13, x14, x15] ∧ But p H H' ∧ PotAt H' p ∧ H' V1 = some (.lst (ws.map V.ref)) ∧ LstsAt H' ws lss ∧ (∀ l ∈ lss, GoodL rs.length l) ∧ (∀ a ∈ ws, a ≠ p) ∧ ws.length ≤ 3 + i) ?_ ?_ ?_
        · exact ⟨_, _, _, _, _, _, _, _, _, _, ws, lss, rfl, b04, pot_same pot3 s4, s4 _ _ e3, lsts_same l3 s4, g3, n3', by omega⟩
        · rintro i σ H5 hi ⟨x6, x7, x8, x9, x10, x11, x12, x13, x14, x15, ws, lss, rfl, b5, pot5, e5, l5, g5, n5, ln5⟩
          have hi : i < n' := by omega
          have rs0 : 0 < rs.length := List.length_pos_iff.mpr (nc' (by omega))
          refine ⟨_, rfl, .inl ⟨rfl, _, SqL.of e5⟩, ?_⟩
          refine ⟨_, rfl, rfl, rfl, p, 3, rfl, pot5, by decide, by decide, fun d H6 d0 d1 pot6 b6 => ?_⟩
          refine ⟨_, _, rfl, rfl, _, rfl, by omega, by omega, fun Wn nW => ?_⟩
          obtain ⟨pa6, pb6, ep6, _⟩ := id pot6
          have nWp : Wn ≠ p := ne_some nW ep6
          have b06 := b5.trans b6
          refine lc_it (walk_range (lo := 0) (n := (1 + d).toNat)) (fun i H' => But p H6 H' ∧ PotAt H' p ∧ ∃ l : List Nat, H' Wn = some (.lst (l.map nI)) ∧ (∀ j ∈ l, j < rs.length) ∧ l.length = i) ⟨But.of (same_new (Same.refl' _) nW), pot_same pot6 (same_new (Same.refl' _) nW), [], upd_same, (fun a ha => absurd ha List.not_mem_nil), rfl⟩ (fun _ _ _ _ => True.intro) ?_ ?_
          · rintro j x H7 H8 hj ⟨b7, pot7, l, e7, lt7, len7⟩ ⟨rfl, rfl⟩
            have eB7 := (b06.trans b7) _ _ nB eB
            refine ⟨rfl, yes_go ?_⟩
            refine ⟨_, rfl, _, rfl, B, _, rfl, .inl (SqL.of eB7), rfl, rfl, p, _, by rw [la], pot7, by omega, by omega, fun dd H9 f0 f1 pot9 b9 => ?_⟩
            have e9 := b9 _ _ nWp e7
            obtain ⟨kk, rfl⟩ := Int.eq_ofNat_of_zero_le f0
            refine ⟨_, e9, by rw [List.length_map]; omega, but_upd (b7.trans b9) nW, pot_off pot9 nWp.symm But.refl.upd, l ++ [kk], by rw [upd_same, List.map_append]; rfl, ?_, by simp; omega⟩
            intro z hz
            rcases List.mem_append.mp hz with hz | hz
            · exact lt7 z hz
            · rw [List.mem_singleton.mp hz]
              omega
          rintro H7 ⟨b7, pot7, l, e7, lt7, len7⟩
          have gl : GoodL rs.length l := ⟨fun z => by rw [z] at len7; simp at len7; omega, lt7, by omega⟩
          have nVp5 : V1 ≠ p := nVp
          have b57 := b6.trans b7
          have e7V := b57 _ _ nVp5 e5
          have nWV : Wn ≠ V1 := ne_some nW (b6 _ _ nVp5 e5)
          refine ⟨V1, _, .ref Wn, rfl, rfl, e7V, by rw [List.length_map]; omega, fun H8 e8 b8 => ?_⟩
          refine ⟨_, _, _, _, _, _, _, _, _, _, ws ++ [Wn], lss ++ [l], rfl, but_put (b5.trans b57) nV0 b8, pot_off pot7 nVp5.symm b8, by rw [e8, List.map_append]; rfl, ?_, ?_, (fun c hc => (List.mem_append.mp hc).elim (n5 c) fun z => by rw [List.mem_singleton.mp z]; exact nWp), by simp; omega⟩
          · exact lsts_app (lsts_put (lsts_butp l5 n5 b57) (fun z hz => (g5 z hz).nn) e7V b8) (.cons (b8 _ _ nWV e7) .nil)
          · intro z hz
            rcases List.mem_append.mp hz with hz | hz
            · exact g5 z hz
            · rw [List.mem_singleton.mp hz]
              exact gl
        · rintro σ H5 ⟨x6, x7, x8, x9, x10, x11, x12, x13, x14, x15, ws, lss, rfl, b5, pot5, e5, l5, g5, n5, ln5⟩
          have ln5 : ws.length ≤ 6 := by omega
          refine ⟨_, rfl, V1, rfl, ⟨_, SqL.of e5⟩, ?_⟩
          have eB5 := b5 _ _ nB eB
          have rows5 : RowsIn H5 as rs := rows_but rows b5 ep
          have hm5 : MovesAt C H5 m gs rs := hm.but pot b5
          refine for_list (K := K) (a := V1) (xs := ws.map V.ref) (fun j σ' H' => ∃ (x6 x7 x8 x9 x10 x11 x12 x13 x14 x15 : Option V), σ' = [some (.ref p), some (.ref m), some (.ref B), some (.ref L), some (.ref V1), some (.ref U), x6, x7, x8, x9, x10, x11, x12, x13, x14, x15] ∧ Same H5 H') ?_ ?_ ?_ ?_
          · exact ⟨_, _, _, _, _, _, _, _, _, _, rfl, Same.refl' _⟩
          · rintro j σ' H' _ ⟨_, _, _, _, _, _, _, _, _, _, rfl, z⟩
            exact SqL.of (z _ _ e5)
          · rintro j x σ' H6 hj ⟨x6, x7, x8, x9, x10, x11, x12, x13, x14, x15, rfl, s6⟩
            obtain ⟨a, l, rfl, ea, el, eal⟩ := lsts_at (lsts_same l5 s6) hj
            have gl := g5 l (List.mem_of_getElem? el)
            obtain ⟨k0, t, rfl⟩ : ∃ k0 t, l = k0 :: t := by
              cases l with
              | nil => exact absurd rfl gl.nn
              | cons a r => exact ⟨a, r, rfl⟩
            have lt := gl.lt
            have lt5 := gl.l5
            have iff := rgl_round lt
            -- the ends
            refine ⟨_, rfl, _, rfl, 1, rfl, a, _, rfl, SqL.of eal, fun q1 H7 n7 e7 s7 => ?_⟩
            rw [List.map_cons, cut1] at e7
            have eal7 := s7 _ _ eal
            refine ⟨_, rfl, 1, rfl, a, _, rfl, SqL.of eal7, fun q2 H8 n8 e8 s8 => ?_⟩
            rw [List.map_cons, cut01] at e8
            refine ⟨q1, q2, _, _, rfl, rfl, s8 _ _ e7, e8, by rw [List.length_map]; simp at lt5; show _ + 1 ≤ sizeLine; omega, fun q3 H9 n9 e9 s9 => ?_⟩
            have s69 := (s7.trans s8).trans s9
            have eal9 := s69 _ _ eal
            refine ⟨a, q3, _, _, rfl, SqL.of eal9, SqL.of e9, fun E8 nE => ?_⟩
            have S9 := s6.trans s69
            have rows9 := rows_same rows5 S9
            have eB9 := S9 _ _ eB5
            have hl2 : (t.map nI ++ [nI k0]).length = (k0 :: t).length := by simp
            refine lc_it (walk_zip (K := K) (a := a) (b := q3) (xs := (k0 :: t).map nI) (ys := t.map nI ++ [nI k0]) (n := (k0 :: t).length) (by rw [hl2, List.length_map]; omega)) (fun i H' => Same H9 H' ∧ H' E8 = some (.lst (((((rowOf rs k0 :: t.map (rowOf rs)).zip (t.map (rowOf rs) ++ [rowOf rs k0])).take i).map fun p => decide (p.1.2.1 = p.2.1)).map V.bl))) ⟨same_new (Same.refl' _) nE, upd_same⟩ (fun i H' _ ⟨z, _⟩ => ⟨SqL.of (z _ _ eal9), SqL.of (z _ _ e9)⟩) ?_ ?_
            · rintro i x J1 J2 hi ⟨s10, e10⟩ ⟨Tp, u, v, rfl, nT, rfl, eu, ev⟩
              obtain ⟨ku, hku, rfl⟩ := get_map eu
              have ev : (t.map nI ++ [nI k0])[i]? = some v := ev
              rw [show t.map nI ++ [nI k0] = (t ++ [k0]).map nI by simp] at ev
              obtain ⟨kv, hkv, rfl⟩ := get_map ev
              have ltu := lt ku (List.mem_of_getElem? hku)
              have ltv : kv < rs.length := by
                rcases List.mem_append.mp (List.mem_of_getElem? hkv) with h | h
                · exact lt kv (List.mem_cons_of_mem _ h)
                · rw [List.mem_singleton.mp h]; exact lt k0 (List.mem_cons_self ..)
              obtain ⟨tu, etu, rtu⟩ := row_at (rows_same rows9 s10) (rowOf_at ltu)
              obtain ⟨tv, etv, rtv⟩ := row_at (rows_same rows9 s10) (rowOf_at ltv)
              have gu := good _ (List.mem_of_getElem? (rowOf_at ltu))
              have gv := good _ (List.mem_of_getElem? (rowOf_at ltv))
              have hT : Same J1 (upd J1 Tp (.tup [nI ku, nI kv])) := same_new (Same.refl' _) nT
              have eT : (upd J1 Tp (.tup [nI ku, nI kv])) Tp = some (.tup [nI ku, nI kv]) := upd_same
              have rtu := hT _ _ rtu
              have rtv := hT _ _ rtv
              have s11 := s10.trans hT
              have e11 := hT _ _ e10
              generalize upd J1 Tp (.tup [nI ku, nI kv]) = J2 at hT eT rtu rtv s11 e11
              refine ⟨Tp, _, rfl, SqT.of eT, rfl, _, _, rfl, _, _, rfl, rfl, rfl, yes_go ?_⟩
              refine ⟨_, rfl, _, rfl, B, _, (ku : Int), .ref tu, rfl, rfl, SqL.of (s11 _ _ eB9), atI_nat etu, tu, _, 1, oV (rowOf rs ku).2.1, rfl, rfl, SqT.of rtu, rfl, ?_⟩
              refine ⟨_, rfl, _, rfl, B, _, (kv : Int), .ref tv, rfl, rfl, SqL.of (s11 _ _ eB9), atI_nat etv, tv, _, 0, oV (rowOf rs kv).1, rfl, rfl, SqT.of rtv, rfl, ?_⟩
              refine ⟨oD (rowOf rs ku).2.1, oD (rowOf rs kv).1, dp_o _, dp_o _, shaped_o gg _ gu.two, shaped_o gg _ gv.one, ?_⟩
              rw [eqv_o]
              have zp : ((rowOf rs k0 :: t.map (rowOf rs)).zip (t.map (rowOf rs) ++ [rowOf rs k0]))[i]? = some (rowOf rs ku, rowOf rs kv) := by
                refine zip_at ?_ ?_
                · rw [show rowOf rs k0 :: t.map (rowOf rs) = (k0 :: t).map (rowOf rs) from rfl, List.getElem?_map, hku]
                  rfl
                · rw [show t.map (rowOf rs) ++ [rowOf rs k0] = (t ++ [k0]).map (rowOf rs) by simp, List.getElem?_map, hkv]
                  rfl
              have hi5 : i < 5 := Nat.lt_of_lt_of_le hi lt5
              refine ⟨_, e11, by rw [List.length_map, List.length_map, List.length_take]; omega, same_but s11 But.refl.upd nE, ?_⟩
              rw [upd_same, take_more zp, List.map_append, List.map_append, List.map_singleton, List.map_singleton]
            rintro H10 ⟨s10, e10⟩
            rw [List.take_of_length_le (by simp)] at e10
            have S10 := S9.trans s10
            -- due
            refine ⟨_, rfl, E8, _, rfl, SqL.of e10, _, rfl, ?_⟩
            have ce : (((rowOf rs k0 :: t.map (rowOf rs)).zip (t.map (rowOf rs) ++ [rowOf rs k0])).map fun p => decide (p.1.2.1 = p.2.1)).all id = ((rowOf rs k0 :: t.map (rowOf rs)).zip (t.map (rowOf rs) ++ [rowOf rs k0])).all (fun p => decide (p.1.2.1 = p.2.1)) := by rw [List.all_map]; rfl
            rw [ce]
            refine and_join (fun v Hx => ∃ b, v = .bl b ∧ (b = true ↔ RgL rs (k0 :: t)) ∧ Same H10 Hx) ?_ ?_ ?_
            · rintro v H11 ⟨b, rfl, hb, s11⟩
              have S11 := S10.trans s11
              have eal11 := (s69.trans (s10.trans s11)) _ _ eal
              have mk : ∀ {H' : Hp} {x : V}, Same H11 H' → RgV H' rs x b → ∀ {Q : VK}, (∀ H'', Same H' H'' → Q (.bl b) H'') → spIr C [.ref m, x] H' Q E0 := fun {H' x} s' rv {Q} qq => ⟨m, x, gs, rs, b, rfl, hm5.same (S11.trans s'), fit, rv, qq⟩
              have no : ∀ {H' : Hp} {x : V}, Same H11 H' → RgV H' rs x false → ∀ {Q : VK}, (∀ H'', Same H' H'' → Q (.bl false) H'') → spIr C [.ref m, x] H' Q E0 := fun {H' x} s' rv {Q} qq => ⟨m, x, gs, rs, false, rfl, hm5.same (S11.trans s'), fit, rv, qq⟩
              refine ⟨_, rfl, _, rfl, rfl, rfl, mk (Same.refl' _) (.pos (.inl eal11) gl.nn lt (by omega) hb) fun H12 s12 => ?_⟩
              refine ⟨_, rfl, a, _, rfl, SqL.of (s12 _ _ eal11), fun tt H13 n13 e13 s13 => ?_⟩
              have s1113 := s12.trans s13
              refine ⟨_, rfl, rfl, rfl, mk s1113 (.pos (.inr e13) gl.nn lt (by omega) hb) fun H14 s14 => ?_⟩
              refine ⟨by show 2 ≤ sizeLine; omega, fun La H15 n15 e15 s15 => ?_⟩
              refine ⟨La, _, rfl, dp_blsL (l := [b, b]) e15, sh_bls2 b b, _, rfl, _, rfl, by show 2 ≤ sizeLine; omega, fun Lb H16 n16 e16 s16 => ?_⟩
              refine ⟨Lb, _, rfl, dp_blsL (l := [b, b]) e16, sh_bls2 b b, rfl, _, rfl, ?_⟩
              rw [decide_eq_true rfl]
              refine iteF ?_
              have s1116 := (s1113.trans s14).trans (s15.trans s16)
              have eal16 := s1116 _ _ eal11
              -- bent ones
              refine ⟨_, rfl, by show 1 ≤ sizeLine; omega, fun z1 H17 n17 e17 s17 => ?_⟩
              refine ⟨a, z1, _, _, rfl, rfl, s17 _ _ eal16, e17, by rw [List.length_map]; simp at lt5 ⊢; omega, fun y1 H18 n18 e18 s18 => ?_⟩
              have s1618 := s17.trans s18
              have eal18 := s1618 _ _ eal16
              refine ⟨_, rfl, a, rfl, ⟨_, SqL.of eal18⟩, fun y2 ny2 => ?_⟩
              refine lc_it (walk_list (K := K) (a := a) (xs := (k0 :: t).map nI)) (fun i H' => Same H18 H' ∧ ∃ ds : List Str, H' y2 = some (.lst (ds.map V.str)) ∧ ds.length = i) ⟨same_new (Same.refl' _) ny2, [], upd_same, rfl⟩ (fun i H' _ ⟨z, _⟩ => SqL.of (z _ _ eal18)) ?_ ?_
              · rintro i x J1 J2 hi ⟨sj, ds, ej, lj⟩ ⟨rfl, hx⟩
                obtain ⟨kk, hk, rfl⟩ := get_map hx
                rw [List.length_map] at hi
                have := lt kk (List.mem_of_getElem? hk)
                refine ⟨rfl, yes_go ?_⟩
                refine ⟨_, rfl, _, rfl, (int_small (i := ((kk : Nat) : Int)) (by omega)).1, ?_⟩
                exact ⟨_, ej, by rw [List.length_map]; omega, same_but sj But.refl.upd ny2, ds ++ [_], by rw [upd_same, List.map_append]; rfl, by simp; omega⟩
              rintro H19 ⟨s19, ds, e19, l19⟩
              rw [List.length_map] at l19
              have s1619 := s1618.trans s19
              have eal19 := s1619 _ _ eal16
              refine ⟨_, rfl, _, rfl, B, _, rfl, .inl (SqL.of (((S11.trans s1116).trans s1619) _ _ eB5)), by show 1 ≤ sizeLine; omega, fun z3 H20 n20 e20 s20 => ?_⟩
              refine ⟨a, z3, _, _, rfl, rfl, s20 _ _ eal19, e20, by rw [List.length_map]; simp at lt5 ⊢; omega, fun y3 H21 n21 e21 s21 => ?_⟩
              refine ⟨_, rfl, by show 1 ≤ sizeLine; omega, fun z4 H22 n22 e22 s22 => ?_⟩
              have s1922 := (s20.trans s21).trans s22
              have eal22 := s1922 _ _ eal19
              refine ⟨_, rfl, z4, a, _, _, rfl, rfl, e22, eal22, by rw [List.length_map]; simp at lt5 ⊢; omega, fun y4 H23 n23 e23 s23 => ?_⟩
              have eal23 := s23 _ _ eal22
              refine ⟨_, rfl, a, rfl, ⟨_, SqL.of eal23⟩, fun y5 ny5 => ?_⟩
              refine lc_it (walk_list (K := K) (a := a) (xs := (k0 :: t).map nI)) (fun i H' => Same H23 H' ∧ ∃ ds : List Bool, H' y5 = some (.lst (ds.map V.bl)) ∧ ds.length = i) ⟨same_new (Same.refl' _) ny5, [], upd_same, rfl⟩ (fun i H' _ ⟨z, _⟩ => SqL.of (z _ _ eal23)) ?_ ?_
              · rintro i x J1 J2 hi ⟨sj, ds, ej, lj⟩ ⟨rfl, hx⟩
                obtain ⟨kk, hk, rfl⟩ := get_map hx
                rw [List.length_map] at hi
                refine ⟨rfl, yes_go ?_⟩
                refine ⟨_, rfl, rfl, ?_⟩
                exact ⟨_, ej, by rw [List.length_map]; omega, same_but sj But.refl.upd ny5, ds ++ [_], by rw [upd_same, List.map_append]; rfl, by simp; omega⟩
              rintro H24 ⟨s24, bs, e24, l24⟩
              rw [List.length_map] at l24
              refine ⟨by show 5 ≤ sizeLine; omega, fun Be H25 n25 e25 s25 => ?_⟩
              have s1625 := (s1619.trans s1922).trans (s23.trans (s24.trans s25))
              have s1825 := s19.trans (s1922.trans (s23.trans (s24.trans s25)))
              have s1925 := s1922.trans (s23.trans (s24.trans s25))
              have s2125 := s22.trans (s23.trans (s24.trans s25))
              have s2325 := s24.trans s25
              have l5' : t.length + 1 ≤ 5 := lt5
              have bent : ∀ x ∈ [V.ref y1, V.ref y2, V.ref y3, V.ref y4, V.ref y5], RgV H25 rs x false := by
                intro x hx
                rcases List.mem_cons.mp hx with rfl | hx
                · refine .bad (.inl (s1825 _ _ e18)) (fun y hy => ?_) (by simp; omega) (.inr ⟨.non, by simp, rfl⟩)
                  rcases List.mem_append.mp hy with hy | hy
                  · exact kd_nats y hy
                  · rw [List.mem_singleton.mp hy]; exact ⟨_, .non⟩
                rcases List.mem_cons.mp hx with rfl | hx
                · have nd : ds ≠ [] := fun z => by rw [z] at l19; simp at l19
                  obtain ⟨d0, dr, rfl⟩ : ∃ d0 dr, ds = d0 :: dr := by cases ds with | nil => exact absurd rfl nd | cons a r => exact ⟨a, r, rfl⟩
                  refine .bad (.inl (s1925 _ _ e19)) (fun y hy => ?_) (by rw [List.length_map]; simp at l19 ⊢; omega) (.inr ⟨.str d0, by simp, rfl⟩)
                  obtain ⟨z, _, rfl⟩ := List.mem_map.mp hy
                  exact ⟨_, .str _⟩
                rcases List.mem_cons.mp hx with rfl | hx
                · refine .bad (.inl (s2125 _ _ e21)) (fun y hy => ?_) (by simp; omega) (.inr ⟨nI rs.length, by rw [la]; simp, okPos_len⟩)
                  rcases List.mem_append.mp hy with hy | hy
                  · exact kd_nats y hy
                  · rw [List.mem_singleton.mp hy]; exact ⟨_, .int _⟩
                rcases List.mem_cons.mp hx with rfl | hx
                · refine .bad (.inl (s2325 _ _ e23)) (fun y hy => ?_) (by simp; omega) (.inr ⟨.int (-1), by simp, rfl⟩)
                  rcases List.mem_append.mp hy with hy | hy
                  · rw [List.mem_singleton.mp hy]; exact ⟨_, .int _⟩
                  · exact kd_nats y hy
                rw [List.mem_singleton.mp hx]
                have nd : bs ≠ [] := fun z => by rw [z] at l24; simp at l24
                obtain ⟨d0, dr, rfl⟩ : ∃ d0 dr, bs = d0 :: dr := by cases bs with | nil => exact absurd rfl nd | cons a r => exact ⟨a, r, rfl⟩
                refine .bad (.inl (s25 _ _ e24)) (fun y hy => ?_) (by rw [List.length_map]; simp at l24 ⊢; omega) (.inr ⟨.bl d0, by simp, rfl⟩)
                obtain ⟨z, _, rfl⟩ := List.mem_map.mp hy
                exact ⟨_, .bl _⟩
              have lb5 : [V.ref y1, V.ref y2, V.ref y3, V.ref y4, V.ref y5].length ≤ 100 := by simp
              generalize [V.ref y1, V.ref y2, V.ref y3, V.ref y4, V.ref y5] = bents at e25 bent lb5
              refine ⟨_, rfl, Be, rfl, ⟨_, SqL.of e25⟩, fun V3 nV3 => ?_⟩
              refine lc_it (walk_list (K := K) (a := Be) (xs := bents)) (fun i H' => Same H25 H' ∧ H' V3 = some (.lst ((List.replicate i false).map V.bl))) ⟨same_new (Same.refl' _) nV3, upd_same⟩ (fun i H' _ ⟨z, _⟩ => SqL.of (z _ _ e25)) ?_ ?_
              · rintro i x J1 J2 hi ⟨sj, ej⟩ ⟨rfl, hx⟩
                refine ⟨rfl, yes_go ?_⟩
                refine ⟨_, rfl, _, rfl, rfl, rfl, no ((s1116.trans s1625).trans sj) ((bent x (List.mem_of_getElem? hx)).same sj) fun J3 s29 => ?_⟩
                refine ⟨_, s29 _ _ ej, by rw [List.length_map, List.length_replicate]; omega, same_but (sj.trans s29) But.refl.upd nV3, ?_⟩
                rw [upd_same, List.replicate_succ', List.map_append]
                rfl
              rintro H26 ⟨s26, e26⟩
              refine ⟨V3, _, rfl, SqL.of e26, _, rfl, ?_⟩
              have z : (List.replicate bents.length false).any id = false := by simp
              rw [z]
              refine iteF ?_
              exact ⟨_, _, _, _, _, _, _, _, _, _, rfl, (S11.trans s1116).trans (s1625.trans s26)⟩
            · intro hQ hc
              have eal10 := (s69.trans s10) _ _ eal
              refine ⟨_, rfl, _, rfl, rfl, rfl, B, a, rs, as, k0 :: t, rfl, S10 _ _ eB5, rows_same rows5 S10, SqL.of eal10, lt, by omega, fun H11 s11 => ⟨_, _, rfl, rfl, ?_⟩⟩
              refine hQ _ _ ⟨_, rfl, ?_, s11⟩
              rw [decide_eq_true_iff, iff]
              exact ⟨fun z => ⟨hc, z⟩, fun z => z.2⟩
            · intro hc
              exact ⟨false, rfl, by rw [iff, hc]; simp, Same.refl' _⟩
          · rintro σ' H6 ⟨x6, x7, x8, x9, x10, x11, x12, x13, x14, x15, rfl, s6⟩
            refine ⟨by show 0 ≤ sizeLine; omega, fun o1 H7 n7 e7 s7 => ?_⟩
            refine ⟨by show 0 ≤ sizeLine; omega, fun o2 H8 n8 e8 s8 => ?_⟩
            intro o3 n9
            have e9 : (upd H8 o3 (.dK [])) o3 = some (.dK []) := upd_same
            have s9 : Same H8 (upd H8 o3 (.dK [])) := same_new (Same.refl' _) n9
            generalize upd H8 o3 (.dK []) = H9 at e9 s9
            refine ⟨by show 0 ≤ sizeLine; omega, fun o4 H10 n10 e10 s10 => ⟨by show 1 ≤ sizeLine; omega, fun o5 H11 n11 e11 s11 => ?_⟩⟩
            intro o6 n12
            refine ⟨upd_same, [(Sum.inl 0, V.int 0)], rfl, by decide, ?_⟩
            have e12 : (upd (upd H11 o6 (.dK [])) o6 (.dK (mergeK [] [(Sum.inl 0, V.int 0)]))) o6 = some (.dK (mergeK [] [(Sum.inl 0, V.int 0)])) := upd_same
            have s12 : Same H11 (upd (upd H11 o6 (.dK [])) o6 (.dK (mergeK [] [(Sum.inl 0, V.int 0)]))) := fun a o e => by
              rw [upd_ne (ne_of_none e n12), upd_ne (ne_of_none e n12)]
              exact e
            generalize upd (upd H11 o6 (.dK [])) o6 (.dK (mergeK [] [(Sum.inl 0, V.int 0)])) = H12 at e12 s12
            refine ⟨by show 10 ≤ sizeLine; omega, fun O H13 n13 e13 s13 => ?_⟩
            have s713 := (s8.trans (s9.trans (s10.trans s11))).trans (s12.trans s13)
            have s813 := ((s9.trans (s10.trans s11))).trans (s12.trans s13)
            have s913 := (s10.trans s11).trans (s12.trans s13)
            have s1113 := s12.trans s13
            have S13 := s6.trans (s7.trans s713)
            have rv : ∀ x ∈ [V.non, V.int 0, V.str ("" : Str), V.ref o1, V.ref o2, V.ref o3, V.bl true, V.str ("0" : Str), V.ref o5, V.ref o6], RgV H13 rs x false := by
              intro x hx
              rcases List.mem_cons.mp hx with rfl | hx
              · exact .no .non (by decide)
              rcases List.mem_cons.mp hx with rfl | hx
              · exact .no (.int _) (by decide)
              rcases List.mem_cons.mp hx with rfl | hx
              · exact .no (.str _) (by decide)
              rcases List.mem_cons.mp hx with rfl | hx
              · exact .bad (xs := []) (.inl (s713 _ _ e7)) (fun y hy => absurd hy List.not_mem_nil) (by simp) (.inl rfl)
              rcases List.mem_cons.mp hx with rfl | hx
              · exact .bad (xs := []) (.inr (s813 _ _ e8)) (fun y hy => absurd hy List.not_mem_nil) (by simp) (.inl rfl)
              rcases List.mem_cons.mp hx with rfl | hx
              · exact .no (.dK (s913 _ _ e9)) (by decide)
              rcases List.mem_cons.mp hx with rfl | hx
              · exact .no (.bl _) (by decide)
              rcases List.mem_cons.mp hx with rfl | hx
              · exact .no (.str _) (by decide)
              rcases List.mem_cons.mp hx with rfl | hx
              · refine .bad (.inl (s1113 _ _ e11)) (fun y hy => ?_) (by simp) (.inr ⟨V.ref o4, by simp, rfl⟩)
                rw [List.mem_singleton.mp hy]
                exact ⟨_, .lst ((s11.trans s1113) _ _ e10)⟩
              rw [List.mem_singleton.mp hx]
              exact .no (.dK (s13 _ _ e12)) (by decide)
            refine ⟨O, rfl, ⟨_, SqL.of e13⟩, fun V3 nV3 => ?_⟩
            have lb5 : [V.non, V.int 0, V.str ("" : Str), V.ref o1, V.ref o2, V.ref o3, V.bl true, V.str ("0" : Str), V.ref o5, V.ref o6].length ≤ 100 := by simp
            generalize [V.non, V.int 0, V.str ("" : Str), V.ref o1, V.ref o2, V.ref o3, V.bl true, V.str ("0" : Str), V.ref o5, V.ref o6] = odd at e13 rv lb5
            refine lc_it (walk_list (K := K) (a := O) (xs := odd)) (fun i H' => Same H13 H' ∧ H' V3 = some (.lst ((List.replicate i false).map V.bl))) ⟨same_new (Same.refl' _) nV3, upd_same⟩ (fun i H' _ ⟨z, _⟩ => SqL.of (z _ _ e13)) ?_ ?_
            · rintro i x J1 J2 hi ⟨sj, ej⟩ ⟨rfl, hx⟩
              refine ⟨rfl, yes_go ?_⟩
              refine ⟨_, rfl, _, rfl, rfl, rfl, m, x, gs, rs, false, rfl, hm5.same (S13.trans sj), fit, (rv x (List.mem_of_getElem? hx)).same sj, fun J3 s29 => ?_⟩
              refine ⟨_, s29 _ _ ej, by rw [List.length_map, List.length_replicate]; omega, same_but (sj.trans s29) But.refl.upd nV3, ?_⟩
              rw [upd_same, List.replicate_succ', List.map_append]
              rfl
            rintro H14 ⟨s14, e14⟩
            refine ⟨V3, _, rfl, SqL.of e14, _, rfl, ?_⟩
            have z : (List.replicate odd.length false).any id = false := by simp
            show Q (V.bl (!(List.replicate odd.length false).any id)) H14
            rw [z]
            have s514 := S13.trans s14
            exact q H14 (pot_same pot5 s514) (b5.trans (But.of s514))
      · intro hQ hc
        exact hQ _ _ ⟨3, rfl, Nat.le_refl _, fun _ z => by rw [z] at hc; simp at hc, rfl⟩
      · intro hQ _
        exact hQ _ _ ⟨0, rfl, by decide, fun z => absurd rfl z, rfl⟩
    · intro hQ hc
      exact hQ _ _ ⟨3, rfl, Nat.le_refl _, fun _ z => by rw [z] at hc; simp at hc, rfl⟩
    · intro hQ _
      exact hQ _ _ ⟨0, rfl, by decide, fun z => absurd rfl z, rfl⟩
end
end KM

set_option Elab.async false
set_option linter.all false
set_option maxRecDepth 100000
set_option maxHeartbeats 4000000
namespace KM
open PySem PySem.Spec PyProof.Rows L2 GL
/-! the law's own sums of chains -/
abbrev sTt : Stmt := top 61
abbrev sHg : Stmt := top 62
def ptl (gs : List Str) : List Pt := gs.map some ++ [none]
theorem ptl_len (gs : List Str) : (ptl gs).length = gs.length + 1 := by simp [ptl]
theorem ptl_mem {gs : List Str} {p : Pt} : p ∈ ptl gs ↔ p ∈ pts gs := by simp [ptl, pts, or_comm]
theorem ptl_in {gs : List Str} {rs : List Row} (h : GoodRows gs rs) : KN.In (ptl gs) rs := fun r hr => ⟨ptl_mem.mpr (in_pts (h r hr).one), ptl_mem.mpr (in_pts (h r hr).two)⟩
theorem ptl_v (gs : List Str) : gs.map V.str ++ [V.non] = (ptl gs).map oV := by simp [ptl, oV]
/-- pairs of a place with itself, and 0 -/
abbrev DPairs (H : Hp) (ps : List Addr) (l : List Pt) : Prop := Paired (fun q p => ∃ b, H q = some (.tup [.ref b, .int 0]) ∧ H b = some (.tup [oV p, oV p])) ps l
theorem dp_kvs {K : PySem.W.Frag} {H : Hp} : ∀ {ps : List Addr} {l : List Pt}, DPairs H ps l → ∃ kvs : List (List NK × Addr × V), Paired (fun p kv => SqT K H p [.ref kv.2.1, kv.2.2] ∧ H kv.2.1 = some (.tup (kv.1.map nV))) ps kvs ∧ kvs.map (fun x => (x.1, x.2.2)) = l.map fun p => ([kO p, kO p], V.int 0)
  | _, _, .nil => ⟨[], .nil, rfl⟩
  | _, _, .cons (b := p) ⟨b, e1, e2⟩ t => by
    obtain ⟨kvs, a, c⟩ := dp_kvs (K := K) t
    exact ⟨([kO p, kO p], b, .int 0) :: kvs, .cons ⟨SqT.of e1, by rw [pair_vs]; exact e2⟩ a, by rw [List.map_cons, List.map_cons, c]⟩
theorem tab0_puts (l : List Pt) : TabK (puts [] (l.map fun p => ([kO p, kO p], V.int 0))) (tab0 l) l.length := by
  have go : ∀ n, n ≤ l.length → TabK (puts [] ((l.take n).map fun p => ([kO p, kO p], V.int 0))) (tab0 (l.take n)) n := by
    intro n
    induction n with
    | zero =>
      intro _
      have z : tab0 (l.take 0) = fun _ _ => none := by
        funext u v
        exact if_neg fun z => by simp at z
      rw [z]
      exact TabK.empty
    | succ n ih =>
      intro h
      have e : l[n]? = some l[n] := List.getElem?_eq_getElem (by omega)
      rw [take_more e, List.map_append, List.map_singleton, puts_snoc, ← tab0_put]
      exact (ih (by omega)).put _ _ 0
  have z := go l.length (Nat.le_refl _)
  rw [List.take_length] at z
  exact z
theorem dp_same {H H' : Hp} {ps : List Addr} {l : List Pt} (h : DPairs H ps l) (s : Same H H') : DPairs H' ps l := Paired.mapP h fun q p ⟨b, e1, e2⟩ => ⟨b, s _ _ e1, s _ _ e2⟩
theorem dp_app {H : Hp} : ∀ {as bs : List Addr} {l m : List Pt}, DPairs H as l → DPairs H bs m → DPairs H (as ++ bs) (l ++ m)
  | _, _, _, _, .nil, h => h
  | _, _, _, _, .cons a t, h => .cons a (dp_app t h)
/-- the law's table of some conditions -/
structure LTab (gs : List Str) (rs : List Row) (f : KN.Tab Pt) : Prop where
  b : KN.Bett rs (ptl gs) (ptl gs).length f
  v : ∀ x y s, f x y = some s → x ∈ ptl gs
def spTt (P : Program) (w : World) : Sp := fun vs H Q _ => ∃ (G R : Addr) (gs : List Str) (rs : List Row) (as : List Addr), vs = [.ref G, .ref R] ∧ H G = some (.lst (gs.map V.str)) ∧ H R = some (.lst (as.map V.ref)) ∧ RowsIn H as rs ∧ gs.length ≤ 4 ∧ GoodRows gs rs ∧ rs.length ≤ 30 ∧
  ∀ d f H', H d = none → TabAt P w H' d f 900 → LTab gs rs f → Same H H' → Q (.ref d) H'
abbrev nTt : List Str := ["_law_goods", "_law_rows", "_law_points", "_law_near", "_law_found", "_law_turn", "_law_one", "_law_other", "_law_most", "_law_total"]
theorem scTt : FnScope nTt ["_law_goods", "_law_rows"] (defScope sTt) := ⟨rfl, rfl, rfl, by decide +kernel, rfl, by decide +kernel, by decide +kernel⟩
section
variable {P : Program} {w : World} {K : PySem.W.Frag} {mg : Str → Option Value} {base : Heap}
theorem ok_tight {f : Addr} {fd : FuncData} (F : Fun K "_law_tight" "_law_tight" sTt f fd) (T : Bi mg) : FnG P w K mg base CX0 1 f fd ["_law_goods", "_law_rows"] (spTt P w) := by
  refine okG F scTt (fun vs H Q E h => ?_) (fun cdv A out s H vs Q E g hr h => ?_)
  · obtain ⟨G, R, gs, rs, as, rfl, _⟩ := h
    rfl
  · obtain ⟨G, R, gs, rs, as, rfl, eG, eR, rows, l2, good, lr, q⟩ := h
    have szl := sizeLine_eq
    have lpt := ptl_len gs
    refine ⟨_, (pss_cons (ps_set (i := 2) scTt.nd rfl (.inl rfl) (pe_op op_catL (pv 0) (pe_lstL (pa_cons pe_non pa_nil))))
      (pss_cons (ps_set (i := 4) scTt.nd rfl (.inl rfl) (pe_callTy (call_dictP' rfl (by have := hr.units; exact Nat.lt_of_le_of_lt (Nat.add_le_add_left (by decide) _) this)) (by rfl) T.dict (by decide +kernel) (pa_cons (pe_lc (own := [("_law_near", 3)]) (g := gName 3) (tt := tYes) (te := tTupL (tCons (tTupL (tCons (tVar 3) (tCons (tVar 3) tNil))) (tCons (tC (.int 0)) tNil))) (by rfl) scTt.nd (pi_list (pv 2)) (blkOk_by (own := [("_law_near", 3)]) (N := nTt) (sc := defScope sTt) (by decide +kernel)) (fun _ _ _ _ _ => by exact (pg_name (i := 3) scTt.nd rfl (.inl rfl))) (fun _ _ _ _ _ => pts_nil) (fun _ _ _ _ _ => by exact (pe_tupL (pa_cons (pe_tupL (pa_cons (pv 3) (pa_cons (pv 3) pa_nil))) (pa_cons pe_int pa_nil))))) pa_nil)))
      (pss_cons (ps_for PassesOwn.never rfl (pi_list (pv 2)) (pg_name (i := 5) scTt.nd rfl (.inl rfl))
      (pss_one (ps_for PassesOwn.never rfl (pi_list (pv 2)) (pg_name (i := 3) scTt.nd rfl (.inl rfl))
      (pss_one (ps_for PassesOwn.never rfl (pi_list (pv 1)) (pg_tup rfl (pgs_cons (pg_name (i := 6) scTt.nd rfl (.inl rfl)) (pgs_cons (pg_name (i := 7) scTt.nd rfl (.inl rfl)) (pgs_cons (pg_name (i := 8) scTt.nd rfl (.inl rfl)) pgs_nil))))
      (pss_one (ps_if (pt_cmp (pc_oin (by have := hr.units; exact Nat.lt_of_le_of_lt (Nat.add_le_add_left (by decide) _) this) (pe_tupL (pa_cons (pv 7) (pa_cons (pv 3) pa_nil))) (pv 4))) (pss_cons (ps_set (i := 9) scTt.nd rfl (.inl rfl) (pe_op op_add (pv 8) (pe_oget (by have := hr.units; exact Nat.lt_of_le_of_lt (Nat.add_le_add_left (by decide) _) this) (pv 4) (pe_tupL (pa_cons (pv 7) (pa_cons (pv 3) pa_nil))) (fun _ _ => rfl))))
      (pss_one (ps_oput (by have := hr.units; exact Nat.lt_of_le_of_lt (Nat.add_le_add_left (by decide) _) this) (pv 4) (pe_tupL (pa_cons (pv 6) (pa_cons (pv 3) pa_nil))) (pe_callB (call_min2 rfl) (by rfl) T.min (by decide +kernel) (pa_cons (pv 9) (pa_cons (pe_oget2 (by have := hr.units; exact Nat.lt_of_le_of_lt (Nat.add_le_add_left (by decide) _) this) (pv 4) (pe_tupL (pa_cons (pv 6) (pa_cons (pv 3) pa_nil))) (pv 9) ⟨rfl, rfl, rfl, rfl⟩) pa_nil))) rfl))) pss_nil)))))))
      (pss_one (ps_ret (pv 4)))))), ?_⟩
    refine ⟨_, rfl, by show 1 ≤ sizeLine; decide, fun b1 H1 n1 e1 s1 => ⟨G, b1, gs.map V.str, [.non], rfl, rfl, s1 _ _ eG, e1, by rw [List.length_map]; show gs.length + 1 ≤ sizeLine; omega, fun Pp H2 n2 e2 s2 => ?_⟩⟩
    rw [ptl_v] at e2
    have S2 := s1.trans s2
    refine ⟨_, rfl, Pp, rfl, ⟨_, SqL.of e2⟩, fun L nL => ?_⟩
    have lv : ((ptl gs).map oV).length = gs.length + 1 := by rw [List.length_map, ptl_len]
    refine lc_it (walk_list (K := K) (a := Pp) (xs := (ptl gs).map oV)) (fun i H' => Same H2 H' ∧ ∃ ps : List Addr, H' L = some (.lst (ps.map V.ref)) ∧ DPairs H' ps ((ptl gs).take i) ∧ ps.length ≤ i) ⟨same_new (Same.refl' _) nL, [], upd_same, .nil, Nat.le_refl _⟩ (fun i H' _ ⟨z, _⟩ => SqL.of (z _ _ e2)) ?_ ?_
    · rintro i x H3 H4 hi ⟨s3, ps, e3, dp, lp⟩ ⟨rfl, hx⟩
      obtain ⟨p, hp, rfl⟩ := oV_at hx
      rw [lv] at hi
      refine ⟨rfl, yes_go ?_⟩
      refine ⟨_, rfl, _, rfl, by show 2 ≤ sizeLine; decide, fun t1 H5 n5 e5 s5 => ⟨by show 2 ≤ sizeLine; decide, fun t2 H6 n6 e6 s6 => ?_⟩⟩
      have s36 := s5.trans s6
      have eL6 := s36 _ _ e3
      have keep : ∀ {a : Addr} {xs : List V}, H6 a = some (.tup xs) → (upd H6 L (.lst (ps.map V.ref ++ [.ref t2]))) a = some (.tup xs) := fun {a xs} e => by rw [upd_ne (ne_of e eL6 (by intro z; cases z))]; exact e
      refine ⟨_, eL6, by rw [List.length_map]; exact small1000 (by omega), same_but (s3.trans s36) But.refl.upd nL, ps ++ [t2], by rw [upd_same]; simp, ?_, by simp; omega⟩
      rw [take_more hp]
      refine dp_app (Paired.mapP (dp_same dp s36) fun q p ⟨b, z1, z2⟩ => ⟨b, keep z1, keep z2⟩) (.cons ⟨t1, keep e6, keep (s6 _ _ e5)⟩ .nil)
    rintro H3 ⟨s3, ps, e3, dp, lp⟩
    rw [lv, ← lpt, List.take_length] at dp
    obtain ⟨kvs, hk1, hk2⟩ := dp_kvs (K := K) dp
    refine ⟨L, ps, kvs, rfl, SqL.of e3, hk1, fun d H4 nd pd sd => ?_⟩
    rw [hk2] at pd
    have td : TabAt P w H4 d (tab0 (ptl gs)) (gs.length + 1) := ⟨_, pd, lpt ▸ tab0_puts (ptl gs)⟩
    have S4 := (S2.trans s3).trans sd
    have nd0 : H d = none := (S2.trans s3).free nd
    have eP4 := sd _ _ (s3 _ _ e2)
    have nd2 : H2 d = none := s3.free nd
    have la : (as.map V.ref).length = rs.length := by rw [List.length_map]; exact Paired.length rows
    have b0 : KN.Bett rs (ptl gs) 0 (tab0 (ptl gs)) := .zero fun a b s => by
      unfold tab0
      by_cases q : a = b ∧ a ∈ ptl gs
      · rw [if_pos q]
        exact ⟨fun z => ⟨q.2, q.1, (Option.some.inj z).symm⟩, fun z => by rw [z.2.2]⟩
      · rw [if_neg q]
        exact ⟨fun z => (nomatch z), fun z => absurd ⟨z.2.1, z.1⟩ q⟩
    refine ⟨_, rfl, Pp, rfl, ⟨_, SqL.of eP4⟩, ?_⟩
    refine for_list (K := K) (a := Pp) (xs := (ptl gs).map oV) (fun i σ' H' => ∃ (x3 x5 x6 x7 x8 x9 : Option V), σ' = [some (.ref G), some (.ref R), some (.ref Pp), x3, some (.ref d), x5, x6, x7, x8, x9] ∧ Same H H' ∧ Same H2 H' ∧ ∃ f, TabAt P w H' d f (5 + i * 150) ∧ KN.Bett rs (ptl gs) i f ∧ ∀ x y s, f x y = some s → x ∈ ptl gs) ?_ ?_ ?_ ?_
    · refine ⟨_, _, _, _, _, _, rfl, S4, s3.trans sd, _, td.mono (by omega), b0, fun x y s e => ?_⟩
      unfold tab0 at e
      split at e
      · rename_i q
        exact q.2
      · cases e
    · rintro i σ' H5 _ ⟨_, _, _, _, _, _, rfl, _, z, _⟩
      exact SqL.of (z _ _ e2)
    · rintro i x σ' H5 hi ⟨x3, x5, x6, x7, x8, x9, rfl, s5, z5, f0, t5, m5, v5⟩
      have ilt : i < gs.length + 1 := by
        have := (List.getElem?_eq_some_iff.mp hi).1
        omega
      refine ⟨_, rfl, Pp, rfl, ⟨_, SqL.of (z5 _ _ e2)⟩, ?_⟩
      refine for_list (K := K) (a := Pp) (xs := (ptl gs).map oV) (fun k σ' H' => ∃ (x3 x6 x7 x8 x9 : Option V), σ' = [some (.ref G), some (.ref R), some (.ref Pp), x3, some (.ref d), some x, x6, x7, x8, x9] ∧ Same H H' ∧ Same H2 H' ∧ ∃ f, TabAt P w H' d f (5 + i * 150 + k * 30) ∧ KN.Rnd rs f0 f (fun c b => c ∈ rs ∧ b ∈ (ptl gs).take k) ∧ ∀ x y s, f x y = some s → x ∈ ptl gs) ?_ ?_ ?_ ?_
      · exact ⟨_, _, _, _, _, rfl, s5, z5, f0, t5, (KN.Rnd.start m5).weaken fun x y h => by simp at h, v5⟩
      · rintro k σ' H6 _ ⟨_, _, _, _, _, rfl, _, z, _⟩
        exact SqL.of (z _ _ e2)
      · rintro k y σ' H6 hk ⟨x3, x6, x7, x8, x9, rfl, s6, z6, f1, t6, m6, v6⟩
        obtain ⟨b, hb, rfl⟩ := oV_at hk
        have klt : k < gs.length + 1 := by
          have := (List.getElem?_eq_some_iff.mp hk).1
          omega
        refine ⟨_, rfl, R, rfl, ⟨_, SqL.of (s6 _ _ eR)⟩, ?_⟩
        refine for_list (K := K) (a := R) (xs := as.map V.ref) (fun j σ' H' => ∃ (x6 x7 x8 x9 : Option V), σ' = [some (.ref G), some (.ref R), some (.ref Pp), some (oV b), some (.ref d), some x, x6, x7, x8, x9] ∧ Same H H' ∧ Same H2 H' ∧ ∃ f, TabAt P w H' d f (5 + i * 150 + k * 30 + j) ∧
          KN.Rnd rs f0 f (fun c b' => (c ∈ rs ∧ b' ∈ (ptl gs).take k) ∨ (c ∈ rs.take j ∧ b' = b)) ∧ ∀ x y s, f x y = some s → x ∈ ptl gs) ?_ ?_ ?_ ?_
        · exact ⟨_, _, _, _, rfl, s6, z6, f1, t6, m6.weaken fun x y h => h.elim id fun z => by simp at z, v6⟩
        · rintro j σ' H7 _ ⟨_, _, _, _, rfl, z, _⟩
          exact SqL.of (z _ _ eR)
        · rintro j y σ' H7 hj ⟨_, _, _, _, rfl, s7, z7, f2, t7, m7, v7⟩
          obtain ⟨tr, r, rfl, er, et⟩ := rows_at (rows_same rows s7) hj
          have rm : (r.1, r.2.1, r.2.2) ∈ rs := List.mem_of_getElem? er
          have gr := good r rm
          have jlt : j < rs.length := (List.getElem?_eq_some_iff.mp er).1
          have next : ∀ f', KN.Rnd rs f0 f' (fun c b' => ((c ∈ rs ∧ b' ∈ (ptl gs).take k) ∨ (c ∈ rs.take j ∧ b' = b)) ∨ (c = (r.1, r.2.1, r.2.2) ∧ b' = b)) →
              KN.Rnd rs f0 f' (fun c b' => (c ∈ rs ∧ b' ∈ (ptl gs).take k) ∨ (c ∈ rs.take (j + 1) ∧ b' = b)) := fun f' h => h.weaken fun c b' z => by
            rcases z with z | ⟨z, rfl⟩
            · exact .inl (.inl z)
            · rw [take_more er] at z
              rcases List.mem_append.mp z with z | z
              · exact .inl (.inr ⟨z, rfl⟩)
              · exact .inr ⟨List.mem_singleton.mp z, rfl⟩
          refine ⟨tr, _, rfl, SqT.of et, rfl, _, _, rfl, _, _, rfl, _, _, rfl, rfl, ?_⟩
          refine ⟨_, rfl, _, rfl, by show 2 ≤ sizeLine; decide, fun t1 H8 n8 e8 s8 => ?_⟩
          refine ⟨_, rfl, d, _, rfl, (t7.same s8).get e8, _, rfl, ?_⟩
          cases hf : f2 r.2.1 b with
          | none =>
            refine iteF ?_
            exact ⟨_, _, _, _, rfl, s7.trans s8, z7.trans s8, f2, (t7.same s8).mono (by omega), next _ (m7.skip hf), v7⟩
          | some s0 =>
            refine iteT ?_
            refine ⟨_, rfl, _, rfl, _, rfl, _, rfl, by show 2 ≤ sizeLine; decide, fun t2 H9 n9 e9 s9 => ?_⟩
            have t9 := (t7.same s8).same s9
            refine ⟨d, _, rfl, by rw [← show ((some s0 : Option Int).map V.int) = some (V.int s0) from rfl, ← hf]; exact t9.get e9, _, _, rfl, rfl, ?_⟩
            refine ⟨_, rfl, _, rfl, d, rfl, ⟨_, _, t9.get e9⟩, _, rfl, _, rfl, by show 2 ≤ sizeLine; decide, fun t3 H10 n10 e10 s10 => ⟨_, rfl, _, (t9.same s10).get e10, ?_⟩⟩
            obtain ⟨c0, ec0⟩ : ∃ c0 : Int, ((f2 r.1 b).map V.int).getD (V.int (r.2.2 + s0)) = V.int c0 := by
              cases f2 r.1 b with
              | none => exact ⟨_, rfl⟩
              | some z => exact ⟨z, rfl⟩
            have hc0 : (f2 r.1 b = none ∧ c0 = r.2.2 + s0) ∨ f2 r.1 b = some c0 := by
              cases q : f2 r.1 b with
              | none =>
                rw [q] at ec0
                have ec0 : V.int (r.2.2 + s0) = V.int c0 := ec0
                injection ec0 with e
                exact .inl ⟨rfl, e.symm⟩
              | some z =>
                rw [q] at ec0
                have ec0 : V.int z = V.int c0 := ec0
                injection ec0 with e
                exact .inr (by rw [e])
            rw [ec0]
            refine ⟨_, _, rfl, ?_⟩
            refine ⟨_, rfl, _, rfl, _, rfl, by show 2 ≤ sizeLine; decide, fun t4 H11 n11 e11 s11 => ⟨d, rfl, ?_⟩⟩
            have S11 := ((s8.trans s9).trans s10).trans s11
            refine ((t9.same s10).same s11).put e11 (by omega) fun H12 t12 b12 => ?_
            refine ⟨_, _, _, _, rfl, same_but (s7.trans S11) b12 nd0, same_but (z7.trans S11) b12 nd2, _, t12, next _ (m7.put rm hf ?_), fun x y s e => ?_⟩
            · rcases hc0 with ⟨h1, rfl⟩ | h1
              · refine .inl ⟨by split <;> rfl, fun s e => by rw [h1] at e; cases e⟩
              · by_cases c : c0 < r.2.2 + s0
                · rw [if_pos c]
                  exact .inr ⟨h1, by omega⟩
                · rw [if_neg c]
                  exact .inl ⟨rfl, fun s e => by rw [h1] at e; cases e; omega⟩
            · unfold KN.Tab.put at e
              split at e
              · rename_i q
                rw [q.1]
                exact ptl_mem.mpr (in_pts gr.one)
              · exact v7 x y s e
        · rintro σ' H7 ⟨_, _, _, _, rfl, s7, z7, f2, t7, m7, v7⟩
          rw [la] at t7 m7
          rw [List.take_of_length_le (Nat.le_refl _)] at m7
          refine ⟨_, _, _, _, _, rfl, s7, z7, f2, t7.mono (by omega), m7.weaken fun c b' z => ?_, v7⟩
          rw [take_more hb] at z
          rcases List.mem_append.mp z.2 with m | m
          · exact .inl ⟨z.1, m⟩
          · exact .inr ⟨z.1, List.mem_singleton.mp m⟩
      · rintro σ' H6 ⟨_, _, _, _, _, rfl, s6, z6, f1, t6, m6, v6⟩
        rw [lv] at t6 m6
        rw [← lpt, List.take_length] at m6
        exact ⟨_, _, _, _, _, _, rfl, s6, z6, f1, t6.mono (by omega), m6.done (ptl_in good) m5 fun c hc b hb => ⟨hc, hb⟩, v6⟩
    · rintro σ' H5 ⟨_, _, _, _, _, _, rfl, s5, z5, f, t5, m5, v5⟩
      rw [lv, ← lpt] at m5
      rw [lv] at t5
      exact ⟨_, rfl, q d f H5 nd0 (t5.mono (by omega)) ⟨m5, v5⟩ s5⟩
end
end KM

set_option Elab.async false
set_option linter.all false
set_option maxRecDepth 100000
set_option maxHeartbeats 4000000
namespace GL
open PySem PySem.Spec PyProof.Rows L2
/-! d.get(key) of a dict of pairs; repr of None or of data -/
section
variable {X : Cx} {pins : List (Addr × Obj)} {σ : L2.St} {H : Hp} {s : Shared} {A : Around} {E : Value → Shared → Prop} {a : Addr} {y : V} {u : Value} {o : Option V}
theorem og_get1 {Q : Value → Shared → Prop} (hu : A.units + 1 < cLine) (I : L2.Inv X pins σ H s) (g : OGet X.prog X.w H a y o) (ry : RelV y u) (h : ∀ w' s', L2.Inv X pins σ H s' → RelV (o.getD .non) w' → Q w' s') :
    wpAny (model X.prog X.w) A (call (.builtin "dict.get") [.ref a, u]) Q E s := by
  have rn : RelV .non Value.none := rfl
  rcases g with ⟨kvs, k, e, rfl, l⟩ | ⟨kvs, k, b, e, rfl, eb, l⟩
  · obtain ⟨_, hd, vs, rel, dd⟩ := nd_of I e
    have z := (rel.val k).getD rn
    rw [← l] at z
    exact call_meetsIn PySem.F.slot_dict_get dd.typeIs PySem.F.entry_dict_get (PySem.F.args_dict_get_2 _ _) (meets_dict_get (noneKind X.prog X.w) a (nV_is ry) hd) ⟨_, dd.mapOf, h _ _ (I.tok _) z⟩
  · cases ry
    obtain ⟨_, hd, xs, ys, _, m, _, rel, dd⟩ := pd_of I e
    have z := (PR.at _ _ rel k).getD rn
    rw [m, ← l] at z
    exact call_meetsIn PySem.F.slot_dict_get dd.typeIs PySem.F.entry_dict_get (PySem.F.args_dict_get_2 _ _) (meetsH_dict_get (tupleKind (noneKind X.prog X.w)) a b hd) ⟨tupleKind_room_in1 hu, k, ys, nkey_of I eb, dd, h _ _ (I.tok _) z⟩
end
def tOGet1 (P : Program) (w : World) (td ty : TE) : TE := fun σ H Q => td σ H fun x H1 => ∃ a, x = .ref a ∧ IsPd P w H1 a ∧ ty σ H1 fun y H2 => ∃ o, OGet P w H2 a y o ∧ Q (o.getD .non) H2
theorem pe_oget1 {X : Cx} {o e : Expr} {apos cpos : Pos} {td ty : TE} (hu : X.A.units + 1 < cLine) (ho : PE X o td) (he : PE X e ty) (m : M1 X o "get" apos e cpos) : PE X (.Call (.Attribute o "get" apos) [e] [] cpos) (tOGet1 X.prog X.w td ty) := by
  constructor
  intro pins s σ H Q I h
  refine wpAny_Call_method m.base m.few m.line PySem.F.plainAttrs_dict PySem.F.slot_dict_get PySem.F.type_dict_get (thn (ho.run pins s σ H _ I h) ?_)
  rintro u s1 ⟨x, H1, I1, rx, a, rfl, ⟨xs0, g1⟩, q1⟩
  cases rx
  have tt : s1.TypeIs (.ref a) "dict" ∧ (∀ b, Value.ref a = .ref b → ∃ ob, s1.heap.get? b = some ob ∧ ob.dict = none) := by
    obtain ⟨_, _, xs, ys, _, _, _, _, dd⟩ := pd_of I1 g1
    refine ⟨dd.typeIs, fun b q => ?_⟩
    cases q
    obtain ⟨ob, _, _, h1, h2, _⟩ := dd
    exact ⟨ob, h1, h2.2.1⟩
  refine ⟨tt.1, tt.2, ?_⟩
  rw [m.trees]
  refine Calls.callWith_builtin rfl (Calls.evalArgs_plain (Calls.spliced_cons (thn (he.run pins s1 σ H1 _ I1 q1) ?_)))
  rintro iv s2 ⟨y, H2, I2, ry, ov, g, q2⟩
  exact Calls.spliced_nil (og_get1 hu I2 g ry fun w' s4 I4 rw' => ⟨_, H2, I4, rw', q2⟩)
theorem cr_reprDN {X : Cx} (g : Clr X.A) (hu : X.A.units + 64 < cLine) : CallR X (.builtin "repr") (fun vs H Q => rReprNon vs H Q ∨ rReprD X.K vs H Q) := by
  intro pins s σ H vs us Q I r z
  rcases z with z | z
  · exact call_repr_non g hu pins s σ H vs us Q I r z
  · exact call_repr_D g hu pins s σ H vs us Q I r z
end GL
namespace KN
variable {P : Type} [DecidableEq P]
theorem W.bound {C : List (Cond P)} {B : Nat} (h : ∀ c ∈ C, c.2.2.natAbs ≤ B) {a b : P} {vs : List P} {s : Int} (w : W C a b vs s) : s.natAbs ≤ vs.length * B := by
  induction w with
  | nil => simp
  | @cons a d c m s vs e _ ih =>
    have := h _ e
    rw [List.length_cons, Nat.succ_mul]
    dsimp only at this
    omega
theorem Least.bound {C : List (Cond P)} {V : List P} (iv : In V C) (nn : ¬ Ring C) {B n : Nat} (h : ∀ c ∈ C, c.2.2.natAbs ≤ B) (hn : V.length ≤ n) {a b : P} (ha : a ∈ V) {t : Int} (l : Least C a b (some t)) : t.natAbs ≤ n * B := by
  obtain ⟨⟨vs, w⟩, least⟩ := l
  obtain ⟨vs', s', w', n', l'⟩ := short iv (noNeg_iff.mpr nn) _ (Nat.le_refl _) ha w
  have e : s' = t := Int.le_antisymm l' (least _ _ w')
  subst e
  have b := w'.bound h
  exact Nat.le_trans b (Nat.mul_le_mul_right B (by omega))
end KN

set_option Elab.async false
set_option linter.all false
set_option maxRecDepth 100000
set_option maxHeartbeats 4000000
namespace KM
open PySem PySem.Spec PyProof.Rows L2 GL
/-! tightest bounds right, by the law -/
abbrev sBd : Stmt := top 72
abbrev nBd : List Str := ["_law_moves", "_law_goods", "_law_rows", "_law_chains_here", "_law_tight_here", "_law_points", "_law_first_here", "_law_second", "_law_due", "_law_told", "_law_some", "_law_least", "_law_near", "_law_one"]
theorem scBd : FnScope nBd ["_law_moves", "_law_goods", "_law_rows", "_law_chains_here"] (defScope sBd) := ⟨rfl, rfl, rfl, by decide +kernel, rfl, by decide +kernel, by decide +kernel⟩
def spBd (C : Addr) : Sp := fun vs H Q _ => ∃ (m G B L : Addr) (gs : List Str) (rs : List Row) (as ls : List Addr) (k : Nat), vs = [.ref m, .ref G, .ref B, .ref L] ∧ MovesAt C H m gs rs ∧ Fit gs rs ∧ rs.length ≤ 7 ∧ (∀ r ∈ rs, r.2.2.natAbs ≤ 100) ∧ H G = some (.lst (gs.map V.str)) ∧ H B = some (.lst (as.map V.ref)) ∧ RowsIn H as rs ∧
  H L = some (.lst (ls.map V.ref)) ∧ LstsAt H ls (KN.chs rs k) ∧ k ≤ 5 ∧ gs.length + 1 ≤ k ∧ ¬ KN.Ring rs ∧ ∀ H', Same H H' → Q (.bl true) H'
def oID : Option Int → PyData
  | none => .none
  | some i => .int i
theorem dp_oI {K : PySem.W.Frag} {H : Hp} : ∀ x : Option Int, Dp K H (oI x) (oID x)
  | none => .non
  | some i => .int i
theorem dp_oI2 {K : PySem.W.Frag} {H : Hp} {L : Addr} {x : Option Int} (e : H L = some (.lst [oI x, oI x])) : Dp K H (.ref L) (.list [oID x, oID x]) := .lst (SqL.of e) (.cons (dp_oI _) (.cons (dp_oI _) .nil))
theorem sh_oI2 {x : Option Int} (h : ∀ t, x = some t → t.natAbs ≤ 1000) : Shows (.list [oID x, oID x]) := by
  have z := sh_list (fun b : Bool => oID x) [true, false] (n := 33) (k := 0) fun b _ => by
    cases x with
    | none => exact ⟨rfl, rfl, by show (PyData.none).shown.length ≤ 33; decide +kernel, Nat.le_refl _⟩
    | some t => exact sh_int (by have := h t rfl; omega)
  exact z.shows (by show 33 * 2 + 2 * 2 + 3 ≤ 16777216; decide) (by decide)
theorem get_oI (x : Option Int) : (x.map V.int).getD .non = oI x := by cases x <;> rfl
/-- a list of positions, or None -/
def OptL (y : Option (List Nat)) (v : V) (H : Hp) : Prop := match y with
  | none => v = .non
  | some l => ∃ ad, v = .ref ad ∧ H ad = some (.lst (l.map nI))
theorem OptL.same {y : Option (List Nat)} {v : V} {H H' : Hp} (h : OptL y v H) (s : Same H H') : OptL y v H' := by
  cases y with
  | none => exact h
  | some l =>
    obtain ⟨ad, e, z⟩ := h
    exact ⟨ad, e, s _ _ z⟩
def optT : Option (List Nat) → Str
  | none => (PyData.none).shown
  | some l => (natsD l).shown
theorem opt_repr {K : PySem.W.Frag} {y : Option (List Nat)} {v : V} {H : Hp} {Q : VK} (h : OptL y v H) (hs : ∀ l, y = some l → (∀ k ∈ l, k ≤ 1000) ∧ l.length ≤ 5) (q : Q (.str (optT y)) H) : rReprNon [v] H Q ∨ rReprD K [v] H Q := by
  cases y with
  | none =>
    refine .inl ⟨?_, q⟩
    rw [show v = .non from h]
  | some l =>
    obtain ⟨ad, rfl, e⟩ := h
    obtain ⟨h1, h2⟩ := hs l rfl
    exact .inr ⟨ad, _, rfl, dp_nats (SqL.of e), (sh_nats (n := 5) (fun k hk => by have := h1 k hk; omega) h2).shows (by decide) (by decide), q⟩
theorem next_join {t u : TS} {D : L2.Ends} {σ : L2.St} {H : Hp} (P : L2.St → Hp → Prop) (hu : ∀ σ' H', P σ' H' → u D σ' H') (h : (∀ σ' H', P σ' H' → u D σ' H') → t { D with nx := u D } σ H) : tNext { D with nx := tSeq t u D } σ H := h hu
theorem ff_go {H : Hp} {L : Addr} {ls : List (List Nat)} {as : List Addr} {Q : VK} (e : H L = some (.lst (as.map V.ref))) (l : LstsAt H as ls) (n : ls.length ≤ 100000) (k : ∀ l ∈ ls, l.length ≤ 1000) (nn : ∀ l ∈ ls, l ≠ [])
    (h : ∀ (y : Option (List Nat)) (v : V) (H' : Hp), KN.FirstOf ls y → OptL y v H' → Same H H' → Q v H') : spFf [.ref L] H Q E0 :=
  ⟨L, ls, as, rfl, e, l, n, k, nn, fun f H' s => h none _ H' f rfl s, fun l a H' f e' s => h (some l) _ H' f ⟨a, rfl, e'⟩ s⟩
theorem chn_go {C m : Addr} {H : Hp} {gs : List Str} {rs : List Row} {a b : Pt} {x : Option Int} {Q : VK} (hm : MovesAt C H m gs rs) (fit : Fit gs rs) (pa : a ∈ pts gs) (pb : b ∈ pts gs) (ne : a ≠ b) (nr : ¬ KN.Ring rs) (lx : KN.Least rs a b x)
    (h : ∀ (y : Option (List Nat)) (v : V) (H' : Hp), KN.ChainL rs a b x y → OptL y v H' → (∀ L, v = .ref L → H L = none) → Same H H' → Q v H') : spChn C [.ref m, oV a, oV b] H Q E0 := by
  refine ⟨m, gs, rs, a, b, rfl, hm, fit, pa, pb, ne, nr, fun H' l0 s => ?_, fun L H' l t lt cl l5 nL eL s => ?_⟩
  · have z := lx.one l0
    exact h none _ H' z rfl (fun L z => by cases z) s
  · have z := lt.one lx
    rw [z] at cl
    exact h (some l) _ H' cl ⟨L, rfl, eL⟩ (fun L' z => by cases z; exact nL) s
theorem cl_small {rs : List Row} {a b : Pt} {x : Option Int} {k : Nat} (k5 : k ≤ 5) {y : Option (List Nat)} (h : KN.ChainL rs a b x y) (hy : ∀ l, y = some l → l.length ≤ k) (l7 : rs.length ≤ 7) : ∀ l, y = some l → (∀ k ∈ l, k ≤ 1000) ∧ l.length ≤ 5 := fun l e => by
  have z := hy l e
  subst e
  obtain ⟨t, _, w, _⟩ := h
  exact ⟨fun j hj => by have := w.lt j hj; omega, by omega⟩
section
variable {P : Program} {w : World} {K : PySem.W.Frag} {mg : Str → Option Value} {base : Heap} {C R : Addr}
theorem ok_boundsright {f : Addr} {fd : FuncData} (F : Fun K "_law_bounds_right" "_law_bounds_right" sBd f fd) (T : Bi mg) (TT : Has P w K mg base "_law_tight" 1 ["_law_goods", "_law_rows"] (spTt P w)) (SL : Has P w K mg base "_law_sum" 1 ["_law_rows", "_law_some"] (spSl K)) (FF : Has P w K mg base "_law_first" 1 ["_law_some"] spFf)
    (TG : Has P w K mg base "tightest" 6 ["moves", "first", "second"] (spTgt C)) (TGK : HasK P w K mg base "tightest" 6 ["moves", "first", "second"] (spTgt C) ["second", "first", "moves"] (fun _ zs => zs.reverse))
    (CH : Has P w K mg base "chain" 6 ["moves", "first", "second"] (spChn C)) (CHK : HasK P w K mg base "chain" 6 ["moves", "first", "second"] (spChn C) ["second", "first", "moves"] (fun _ zs => zs.reverse)) :
    FnG P w K mg base CX0 7 f fd ["_law_moves", "_law_goods", "_law_rows", "_law_chains_here"] (spBd C) := by
  refine okG F scBd (fun vs H Q E h => ?_) (fun cdv A out s H vs Q E g hr h => ?_)
  · obtain ⟨m, G, B, L, gs, rs, as, ls, k, rfl, _⟩ := h
    rfl
  · obtain ⟨m, G, B, L, gs, rs, as, ls, k, rfl, hm, fit, l7, low, eG, eB, rows, eL, lL, k5, gk, nr, q⟩ := h
    have hr6 : Room 6 _ := hr
    have hr1 : Room 1 _ := hr.mono (by decide)
    have hu := hr.units
    have szl := sizeLine_eq
    have good := fit.r
    have gg := fit.g
    have l2 := fit.g.l2
    have ptn := ptl_len gs
    have ll := Paired.length lL
    have lm : (ls.map V.ref).length = (KN.chs rs k).length := by rw [List.length_map, ll]
    have cl := KN.chs_len (C := rs) l7 k5
    have p5 : 7 ^ k ≤ 16807 := Nat.pow_le_pow_right (n := 7) (by decide) k5
    have pl5 : (pts gs).length = gs.length + 1 := by simp [pts]
    refine ⟨_, (pss_cons (ps_par (i := 4) (j := 5) (by rfl) scBd.nd rfl rfl (by decide) rfl rfl (pa_cons (pe_has TT g hr1 (by rfl) (pa_cons (pv 1) (pa_cons (pv 2) pa_nil))) (pa_cons (pe_op op_catL (pv 1) (pe_lstL (pa_cons pe_non pa_nil))) pa_nil)) (by rfl))
      (pss_cons (ps_for PassesOwn.never rfl (pi_list (pv 5)) (pg_name (i := 6) scBd.nd rfl (.inr rfl))
      (pss_one (ps_for PassesOwn.never rfl (pi_list (pe_lc (own := [("_law_near", 12)]) (g := gName 12) (tt := tTest (tOp (rNeD K) (tVar 12) (tVar 6))) (te := tVar 12) (by rfl) scBd.nd (pi_list (pv 5)) (blkOk_by (own := [("_law_near", 12)]) (N := nBd) (sc := defScope sBd) (by decide +kernel)) (fun _ _ _ _ _ => by exact (pg_name (i := 12) scBd.nd rfl (.inl rfl))) (fun _ _ _ _ _ => by exact (pts_one (pt_cmpR (op_neD hu) (pv 12) (pv 6) (nomark _)))) (fun _ _ _ _ _ => by exact (pv 12)))) (pg_name (i := 7) scBd.nd rfl (.inr rfl))
      (pss_cons (ps_set (i := 8) scBd.nd rfl (.inr rfl) (pe_oget1 (by have := hr.units; exact Nat.lt_of_le_of_lt (Nat.add_le_add_left (by decide) _) this) (pv 4) (pe_tupL (pa_cons (pv 6) (pa_cons (pv 7) pa_nil))) ⟨rfl, rfl, rfl, rfl⟩))
      (pss_cons (ps_set (i := 9) scBd.nd rfl (.inl rfl) (pe_lstL (pa_cons (pe_has TG g hr6 (by rfl) (pa_cons (pv 0) (pa_cons (pv 6) (pa_cons (pv 7) pa_nil)))) (pa_cons (pe_hasK TGK g hr6 (by rfl) (pk_cons (pv 7) (pk_cons (pv 6) (pk_cons (pv 0) pk_nil)))) pa_nil))))
      (pss_cons (ps_if (pt_cmpR op_ne (pe_callB (call_repr_D g hu) (by rfl) T.repr (by decide +kernel) (pa_cons (pv 9) pa_nil)) (pe_callB (call_repr_D g hu) (by rfl) T.repr (by decide +kernel) (pa_cons (pe_lstL (pa_cons (pv 8) (pa_cons (pv 8) pa_nil))) pa_nil)) (nomark _)) (pss_one (ps_ret pe_bl)) pss_nil)
      (pss_cons (ps_setLc (i := 10) (own := [("_law_one", 13)]) (g := gName 13) (tt := tAnd (tTest (tOp (rEqD K) (tOp (rIxT K) (tOp (rIxL K) (tVar 2) (tOp (rIxL K) (tVar 13) (tC (.int 0)))) (tC (.int 0))) (tVar 6))) (tTest (tOp (rEqD K) (tOp (rIxT K) (tOp (rIxL K) (tVar 2) (tOp (rIxL K) (tVar 13) (tUn (rU fun i => V.int (-i)) (tC (.int 1))))) (tC (.int 1))) (tVar 7)))) (te := tVar 13) rfl scBd.nd rfl rfl (sw_true rfl rfl rfl (by decide +kernel)) (pi_list (pv 3)) (blkOk_by (own := [("_law_one", 13)]) (N := nBd) (sc := defScope sBd) (by decide +kernel)) (fun _ _ _ _ _ => by exact (pg_name (i := 13) scBd.nd rfl (.inl rfl))) (fun _ _ _ _ _ => by exact (pts_one (PW.pt (pw_and (pt_cmpR (op_eqD hu) (pe_ix ix_tup (pe_ix ix_list (pv 2) (pe_ix ix_list (pv 13) pe_int (fun _ _ => rfl)) (fun _ _ => rfl)) pe_int (fun _ _ => rfl)) (pv 6) (nomark _)) (pw_and1 (pt_cmpR (op_eqD hu) (pe_ix ix_tup (pe_ix ix_list (pv 2) (pe_ix ix_list (pv 13) (pe_un un_neg pe_int) (fun _ _ => rfl)) (fun _ _ => rfl)) pe_int (fun _ _ => rfl)) (pv 7) (nomark _))))))) (fun _ _ _ _ _ => by exact (pv 13)))
      (pss_cons (ps_set (i := 11) scBd.nd rfl (.inl rfl) (pe_has FF g hr1 (by rfl) (pa_cons (pe_lc (own := [("_law_one", 13)]) (g := gName 13) (tt := tTest (tOp rEq (tGo (["_law_rows", "_law_some"] : List Str).length 0 (spSl K) (fun vs _ => vs) E0 (tCons (tVar 2) (tCons (tVar 13) tNil)) tNil) (tVar 8))) (te := tVar 13) (by rfl) scBd.nd (pi_list (pv 10)) (blkOk_by (own := [("_law_one", 13)]) (N := nBd) (sc := defScope sBd) (by decide +kernel)) (fun _ _ _ _ _ => by exact (pg_name (i := 13) scBd.nd rfl (.inl rfl))) (fun _ _ _ _ _ => by exact (pts_one (pt_cmpR op_eq (pe_has SL g hr1 (by rfl) (pa_cons (pv 2) (pa_cons (pv 13) pa_nil))) (pv 8) (nomark _)))) (fun _ _ _ _ _ => by exact (pv 13))) pa_nil)))
      (pss_cons (ps_set (i := 9) scBd.nd rfl (.inl rfl) (pe_has CH g hr6 (by rfl) (pa_cons (pv 0) (pa_cons (pv 6) (pa_cons (pv 7) pa_nil)))))
      (pss_cons (ps_if (pt_cmpR op_ne (pe_callB (cr_reprDN g hu) (by rfl) T.repr (by decide +kernel) (pa_cons (pv 9) pa_nil)) (pe_callB (cr_reprDN g hu) (by rfl) T.repr (by decide +kernel) (pa_cons (pv 11) pa_nil)) (nomark _)) (pss_one (ps_ret pe_bl)) pss_nil)
      (pss_cons (ps_if (pt_cmpR op_notN (pv 9) pe_non (nomark _)) (pss_one (ps_expr (pe_bm PySem.F.plainAttrs_list PySem.F.slot_list_append PySem.F.type_list_append mt_appL (pv 9) (pa_cons pe_non pa_nil)))) pss_nil)
      (pss_one (ps_if (pt_cmpR op_ne (pe_callB (cr_reprDN g hu) (by rfl) T.repr (by decide +kernel) (pa_cons (pe_hasK CHK g hr6 (by rfl) (pk_cons (pv 7) (pk_cons (pv 6) (pk_cons (pv 0) pk_nil)))) pa_nil)) (pe_callB (cr_reprDN g hu) (by rfl) T.repr (by decide +kernel) (pa_cons (pv 11) pa_nil)) (nomark _)) (pss_one (ps_ret pe_bl)) pss_nil)))))))))))))
      (pss_one (ps_ret pe_bl)))), ?_⟩
    refine ⟨_, rfl, _, rfl, rfl, rfl, G, B, gs, rs, as, rfl, eG, eB, rows, l2, good, by omega, fun td ft H1 n1 tab ltab s1 => ?_⟩
    refine ⟨_, rfl, by show 1 ≤ sizeLine; omega, fun b1 H2 n2 e2 s2 => ?_⟩
    refine ⟨G, b1, _, _, rfl, rfl, (s1.trans s2) _ _ eG, e2, by rw [List.length_map]; show gs.length + 1 ≤ sizeLine; omega, fun Pp H3 n3 e3 s3 => ?_⟩
    rw [ptl_v] at e3
    have S3 := (s1.trans s2).trans s3
    have tab3 := tab.same (s2.trans s3)
    refine ⟨_, _, rfl, ?_⟩
    refine ⟨_, rfl, Pp, rfl, ⟨_, SqL.of e3⟩, ?_⟩
    refine for_list (K := K) (a := Pp) (xs := (ptl gs).map oV) (fun i σ' H' => ∃ (x6 x7 x8 x9 x10 x11 x12 x13 : Option V), σ' = [some (.ref m), some (.ref G), some (.ref B), some (.ref L), some (.ref td), some (.ref Pp), x6, x7, x8, x9, x10, x11, x12, x13] ∧ Same H3 H') ?_ ?_ ?_ ?_
    · exact ⟨_, _, _, _, _, _, _, _, rfl, Same.refl' _⟩
    · rintro i σ' H' _ ⟨_, _, _, _, _, _, _, _, rfl, z⟩
      exact SqL.of (z _ _ e3)
    · rintro i x σ' H4 hi ⟨x6, x7, x8, x9, x10, x11, x12, x13, rfl, s4⟩
      obtain ⟨a, ha, rfl⟩ := oV_at hi
      have ma := List.mem_of_getElem? ha
      have pa := ptl_mem.mp ma
      refine ⟨_, rfl, Pp, rfl, ⟨_, SqL.of (s4 _ _ e3)⟩, fun U nU => ?_⟩
      refine lc_it (walk_list (K := K) (a := Pp) (xs := (ptl gs).map oV)) (fun i H' => Same H4 H' ∧ H' U = some (.lst ((((ptl gs).take i).filter fun q => !decide (q = a)).map oV))) ⟨same_new (Same.refl' _) nU, upd_same⟩ (fun i H' _ ⟨z, _⟩ => SqL.of (z _ _ (s4 _ _ e3))) ?_ ?_
      · rintro j x J1 J2 hj ⟨sj, ej⟩ ⟨rfl, hx⟩
        obtain ⟨b, hb, rfl⟩ := oV_at hx
        have pb := ptl_mem.mp (List.mem_of_getElem? hb)
        rw [List.length_map] at hj
        refine ⟨rfl, ?_⟩
        refine ⟨_, rfl, _, rfl, oD b, oD a, dp_o _, dp_o _, shaped_o gg _ (pts_ok pb), shaped_o gg _ (pts_ok pa), _, rfl, ?_⟩
        rw [eqv_o, take_more hb, List.filter_append]
        by_cases c : b = a
        · rw [decide_eq_true c]
          refine iteF ⟨sj, ?_⟩
          rw [show [b].filter (fun q => !decide (q = a)) = [] by simp [c], List.append_nil]
          exact ej
        · rw [decide_eq_false c]
          refine iteT ?_
          refine ⟨_, rfl, _, ej, small1000 (by rw [List.length_map]; have := List.length_filter_le (fun q => !decide (q = a)) ((ptl gs).take j); rw [List.length_take] at this; omega), same_but sj But.refl.upd nU, ?_⟩
          rw [upd_same, show [b].filter (fun q => !decide (q = a)) = [b] by simp [c], List.map_append]
          rfl
      rintro H5 ⟨s5, e5⟩
      rw [List.length_map, List.take_length] at e5
      have S5 := s4.trans s5
      refine ⟨U, rfl, ⟨_, SqL.of e5⟩, ?_⟩
      refine for_list (K := K) (a := U) (xs := ((ptl gs).filter fun q => !decide (q = a)).map oV) (fun j σ' H' => ∃ (x7 x8 x9 x10 x11 x12 x13 : Option V), σ' = [some (.ref m), some (.ref G), some (.ref B), some (.ref L), some (.ref td), some (.ref Pp), some (oV a), x7, x8, x9, x10, x11, x12, x13] ∧ Same H5 H') ?_ ?_ ?_ ?_
      · exact ⟨_, _, _, _, _, _, _, rfl, Same.refl' _⟩
      · rintro j σ' H' _ ⟨_, _, _, _, _, _, _, rfl, z⟩
        exact SqL.of (z _ _ e5)
      · rintro j x σ' H6 hj ⟨x7, x8, x9, x10, x11, x12, x13, rfl, s6⟩
        obtain ⟨b, hb, rfl⟩ := oV_at hj
        obtain ⟨mb, nb⟩ := List.mem_filter.mp (List.mem_of_getElem? hb)
        have pb := ptl_mem.mp mb
        have ne : a ≠ b := fun z => by rw [z] at nb; simp at nb
        have S6 := S5.trans s6
        have hm6 : MovesAt C H6 m gs rs := hm.same (S3.trans S6)
        have lx : KN.Least rs a b (ft a b) := ltab.b.least (ptl_in good) nr ma
        have xb : ∀ t, ft a b = some t → t.natAbs ≤ 1000 := fun t e => by
          rw [e] at lx
          have z := KN.Least.bound (B := 100) (n := 5) (ptl_in good) nr low (by omega) ma lx
          omega
        -- due
        refine ⟨_, rfl, td, rfl, (tab3.same S6).isPd, _, rfl, _, rfl, by show 2 ≤ sizeLine; omega, fun kt H7 n7 e7 s7 => ?_⟩
        have S7 := S6.trans s7
        refine ⟨_, (tab3.same S7).get e7, ?_⟩
        rw [get_oI]
        generalize ft a b = x at lx xb
        have one : ∀ {y : Option Int}, KN.Least rs a b y → y = x := fun {y} h => h.one lx
        -- told
        refine ⟨_, rfl, _, rfl, _, rfl, rfl, rfl, m, gs, rs, a, b, rfl, hm6.same s7, fit, pa, pb, ne, nr, fun y H8 ly s8 => ?_⟩
        rw [one ly]
        refine ⟨_, rfl, _, rfl, _, rfl, rfl, rfl, m, gs, rs, a, b, rfl, hm6.same (s7.trans s8), fit, pa, pb, ne, nr, fun y2 H9 ly2 s9 => ?_⟩
        rw [one ly2]
        refine ⟨by show 2 ≤ sizeLine; omega, fun La H10 n10 e10 s10 => ?_⟩
        refine ⟨_, rfl, La, _, rfl, dp_oI2 e10, sh_oI2 xb, _, rfl, _, rfl, by show 2 ≤ sizeLine; omega, fun Lb H11 n11 e11 s11 => ?_⟩
        refine ⟨Lb, _, rfl, dp_oI2 e11, sh_oI2 xb, rfl, _, rfl, ?_⟩
        rw [decide_eq_true rfl]
        refine iteF ?_
        have s611 := s7.trans ((s8.trans s9).trans (s10.trans s11))
        have S11 := S3.trans (S6.trans s611)
        -- some
        refine ⟨_, rfl, L, rfl, ⟨_, SqL.of (S11 _ _ eL)⟩, fun V1 nV1 => ?_⟩
        have lL11 := lsts_same lL S11
        have rows11 := rows_same rows S11
        refine lc_it (walk_list (K := K) (a := L) (xs := ls.map V.ref)) (fun i H' => Same H11 H' ∧ ∃ vs : List Addr, H' V1 = some (.lst (vs.map V.ref)) ∧ LstsAt H' vs (((KN.chs rs k).take i).filter (KN.ftw rs a b)) ∧ vs.length ≤ i) ⟨same_new (Same.refl' _) nV1, [], upd_same, .nil, Nat.le_refl _⟩ (fun i H' _ ⟨z, _⟩ => SqL.of (z _ _ (S11 _ _ eL))) ?_ ?_
        · rintro i x0 H12 H13 hi ⟨s12, vs, e12, l12, vl⟩ ⟨rfl, hx⟩
          obtain ⟨ad, l, rfl, ea, el, eal⟩ := lsts_at (lsts_same lL11 s12) hx
          have mem := List.mem_of_getElem? el
          obtain ⟨nl, ll5, pp, q2, s, pl⟩ := KN.mem_chs.mp mem
          rw [lm] at hi
          have hd := pl.headFrom nl
          have lt := pl.lastTo nl
          obtain ⟨l', ix, e1⟩ : ∃ l' i, l = l' ++ [i] := ⟨l.dropLast, l.getLast nl, (List.dropLast_concat_getLast nl).symm⟩
          obtain ⟨hx0, ht, e2'⟩ : ∃ a r, l = a :: r := by cases l with | nil => exact absurd rfl nl | cons a r => exact ⟨a, r, rfl⟩
          have k1 : hx0 < rs.length := pl.lt _ (by rw [e2']; exact List.mem_cons_self ..)
          have k2 : ix < rs.length := pl.lt _ (by rw [e1]; simp)
          have r1 : rs[hx0]? = some rs[hx0] := List.getElem?_eq_getElem k1
          have r2 : rs[ix]? = some rs[ix] := List.getElem?_eq_getElem k2
          have rows12 := rows_same rows11 s12
          obtain ⟨t1, et1, rt1⟩ := row_at rows12 r1
          obtain ⟨t2, et2, rt2⟩ := row_at rows12 r2
          have g1 := good _ (List.mem_of_getElem? r1)
          have g2 := good _ (List.mem_of_getElem? r2)
          have d1 : pp = rs[hx0].1 := by
            rw [e2'] at hd
            unfold KN.headFrom at hd
            rw [List.head?_cons, Option.bind_some, r1] at hd
            exact (Option.some.inj hd).symm
          have d2 : q2 = rs[ix].2.1 := by
            rw [e1] at lt
            unfold KN.lastTo at lt
            rw [List.getLast?_concat, Option.bind_some, r2] at lt
            exact (Option.some.inj lt).symm
          have eB12 := (S11.trans s12) _ _ eB
          refine ⟨rfl, ?_⟩
          refine ⟨_, rfl, _, rfl, ad, _, 0, nI hx0, rfl, rfl, SqL.of eal, by rw [e2']; exact atI_nat (i := 0) rfl, B, _, (hx0 : Int), .ref t1, rfl, rfl, SqL.of eB12, atI_nat et1, t1, _, 0, oV rs[hx0].1, rfl, rfl, SqT.of rt1, rfl, ?_⟩
          refine ⟨_, rfl, oD rs[hx0].1, oD a, dp_o _, dp_o _, shaped_o gg _ g1.one, shaped_o gg _ (pts_ok pa), _, rfl, ?_⟩
          have iff := KN.ftw_iff (c := a) (d := b) pl nl
          rw [eqv_o, ← d1, take_more el, List.filter_append]
          have no : KN.ftw rs a b l = false → [l].filter (KN.ftw rs a b) = [] := fun z => by simp [z]
          by_cases c : pp = a
          · rw [decide_eq_true c]
            refine iteT ?_
            refine ⟨_, rfl, _, rfl, _, rfl, ad, _, -1, nI ix, rfl, rfl, SqL.of eal, by rw [e1, List.map_append]; exact atI_last, B, _, (ix : Int), .ref t2, rfl, rfl, SqL.of eB12, atI_nat et2, t2, _, 1, oV rs[ix].2.1, rfl, rfl, SqT.of rt2, rfl, ?_⟩
            refine ⟨_, rfl, oD rs[ix].2.1, oD b, dp_o _, dp_o _, shaped_o gg _ g2.two, shaped_o gg _ (pts_ok pb), _, rfl, ?_⟩
            rw [eqv_o, ← d2]
            by_cases c2 : q2 = b
            · rw [decide_eq_true c2]
              refine iteT ?_
              rw [show [l].filter (KN.ftw rs a b) = [l] by simp [iff.mpr ⟨c, c2⟩]]
              refine ⟨_, rfl, _, e12, by rw [List.length_map]; omega, same_but s12 But.refl.upd nV1, vs ++ [ad], by rw [upd_same, List.map_append]; rfl, ?_, by simp; omega⟩
              have z1 := lsts_put l12 (fun z hz => chs_nn z (List.mem_of_mem_take (List.mem_filter.mp hz).1)) e12 (But.refl.upd (o := .lst (vs.map V.ref ++ [.ref ad])))
              refine lsts_app z1 (.cons ?_ .nil)
              rw [upd_ne (fun z => ?_)]
              · exact eal
              · subst z
                rw [eal] at e12
                injection e12 with e12
                injection e12 with e12
                exact int_ref nl e12
            · rw [decide_eq_false c2]
              refine iteF ⟨s12, vs, e12, ?_, by omega⟩
              rw [no (by rw [Bool.eq_false_iff]; exact fun z => c2 (iff.mp z).2), List.append_nil]
              exact l12
          · rw [decide_eq_false c]
            refine iteF ⟨s12, vs, e12, ?_, by omega⟩
            rw [no (by rw [Bool.eq_false_iff]; exact fun z => c (iff.mp z).1), List.append_nil]
            exact l12
        rintro H12 ⟨s12, vs, e12, l12, vl⟩
        rw [lm, List.take_length] at l12
        rw [lm] at vl
        have S12 := S11.trans s12
        refine ⟨_, rfl, V1, rfl, ⟨_, SqL.of e12⟩, fun V2 nV2 => ?_⟩
        have lvs := Paired.length l12
        have fl : ((KN.chs rs k).filter (KN.ftw rs a b)).length ≤ (KN.chs rs k).length := List.length_filter_le ..
        have lmv : (vs.map V.ref).length = ((KN.chs rs k).filter (KN.ftw rs a b)).length := by rw [List.length_map, lvs]
        refine lc_it (walk_list (K := K) (a := V1) (xs := vs.map V.ref)) (fun i H' => Same H12 H' ∧ ∃ us : List Addr, H' V2 = some (.lst (us.map V.ref)) ∧ LstsAt H' us ((((KN.chs rs k).filter (KN.ftw rs a b)).take i).filter fun l => decide (some (KN.sumL rs l) = x)) ∧ us.length ≤ i) ⟨same_new (Same.refl' _) nV2, [], upd_same, .nil, Nat.le_refl _⟩ (fun i H' _ ⟨z, _⟩ => SqL.of (z _ _ e12)) ?_ ?_
        · rintro i x0 H13 H14 hi ⟨s13, us, e13, l13, ul⟩ ⟨rfl, hx⟩
          obtain ⟨ad, l, rfl, ea, el, eal⟩ := lsts_at (lsts_same l12 s13) hx
          have mem := (List.mem_filter.mp (List.mem_of_getElem? el)).1
          obtain ⟨nl, ll5, pp, q2, s, pl⟩ := KN.mem_chs.mp mem
          rw [lmv] at hi
          refine ⟨rfl, ?_⟩
          refine ⟨_, rfl, _, rfl, rfl, rfl, B, ad, rs, as, l, rfl, (S12.trans s13) _ _ eB, rows_same rows (S12.trans s13), SqL.of eal, pl.lt, by omega, fun H15 s15 => ?_⟩
          have dd : decide (V.int (KN.sumL rs l) = oI x) = decide (some (KN.sumL rs l) = x) := by
            cases x with
            | none => rfl
            | some t => exact decide_eq_decide.mpr ⟨fun z => by injection z with z; rw [z], fun z => by rw [Option.some.inj z]; rfl⟩
          refine ⟨_, rfl, (by cases x <;> rfl), _, rfl, ?_⟩
          rw [dd, take_more el, List.filter_append]
          have s1215 := s13.trans s15
          by_cases c : some (KN.sumL rs l) = x
          · rw [decide_eq_true c]
            refine iteT ?_
            rw [show [l].filter (fun l => decide (some (KN.sumL rs l) = x)) = [l] by simp [c]]
            have e15 := s15 _ _ e13
            refine ⟨_, rfl, _, e15, by rw [List.length_map]; omega, same_but s1215 But.refl.upd nV2, us ++ [ad], by rw [upd_same, List.map_append]; rfl, ?_, by simp; omega⟩
            have z1 := lsts_put (lsts_same l13 s15) (fun z hz => chs_nn z ((List.mem_filter.mp (List.mem_of_mem_take (List.mem_filter.mp hz).1)).1)) e15 (But.refl.upd (o := .lst (us.map V.ref ++ [.ref ad])))
            refine lsts_app z1 (.cons ?_ .nil)
            rw [upd_ne (fun z => ?_)]
            · exact s15 _ _ eal
            · subst z
              rw [eal] at e13
              injection e13 with e13
              injection e13 with e13
              exact int_ref nl e13
          · rw [decide_eq_false c]
            refine iteF ⟨s1215, us, s15 _ _ e13, ?_, by omega⟩
            rw [show [l].filter (fun l => decide (some (KN.sumL rs l) = x)) = [] by simp [c], List.append_nil]
            exact lsts_same l13 s15
        rintro H13 ⟨s13, us, e13, l13, ul⟩
        rw [lmv, List.take_length] at l13
        have fl2 : (((KN.chs rs k).filter (KN.ftw rs a b)).filter fun l => decide (some (KN.sumL rs l) = x)).length ≤ ((KN.chs rs k).filter (KN.ftw rs a b)).length := List.length_filter_le ..
        refine ⟨rfl, rfl, ff_go e13 l13 (by omega) (fun l hl => ?_) (fun l hl => ?_) fun y vv H14 fy oy s14 => ?_⟩
        · have := (KN.mem_chs.mp (List.mem_filter.mp (List.mem_filter.mp hl).1).1).2.1
          omega
        · exact chs_nn l (List.mem_filter.mp (List.mem_filter.mp hl).1).1
        have S14 := S12.trans (s13.trans s14)
        have cy : KN.ChainL rs a b x y := KN.chainL_first (good_in good) nr pa ne (by omega) lx fy
        have sy := cl_small k5 cy (fun l e => by subst e; exact (KN.mem_chs.mp (List.mem_filter.mp (List.mem_filter.mp fy.1).1).1).2.1) l7
        -- chain
        refine ⟨_, rfl, _, rfl, _, rfl, rfl, rfl, chn_go (hm.same S14) fit pa pb ne nr lx fun y2 v2 H15 cy2 oy2 nv2 s15 => ?_⟩
        have e2 : y2 = y := cy2.one cy
        subst e2
        refine ⟨_, rfl, opt_repr oy2 sy ?_⟩
        refine ⟨_, rfl, opt_repr (oy.same s15) sy ?_⟩
        refine ⟨rfl, _, rfl, ?_⟩
        rw [decide_eq_true rfl]
        refine iteF ?_
        refine next_join (fun σ'' H'' => σ'' = [some (.ref m), some (.ref G), some (.ref B), some (.ref L), some (.ref td), some (.ref Pp), some (oV a), some (oV b), some (oI x), some v2, some (.ref V1), some vv, x12, x13] ∧ Same H14 H'') ?_ ?_
        · rintro σ'' H16 ⟨rfl, s16⟩
          refine ⟨_, rfl, _, rfl, _, rfl, rfl, rfl, chn_go (hm.same (S14.trans s16)) fit pa pb ne nr lx fun y3 v3 H17 cy3 oy3 nv3 s17 => ?_⟩
          have e3 : y3 = y2 := cy3.one cy
          subst e3
          refine opt_repr oy3 sy ?_
          refine ⟨_, rfl, opt_repr (oy.same (s16.trans s17)) sy ?_⟩
          refine ⟨rfl, _, rfl, ?_⟩
          rw [decide_eq_true rfl]
          refine iteF ?_
          exact ⟨_, _, _, _, _, _, _, rfl, s6.trans (s611.trans (s12.trans (s13.trans (s14.trans (s16.trans s17)))))⟩
        · intro hP
          refine ⟨_, rfl, rfl, _, rfl, ?_⟩
          cases y2 with
          | none =>
            rw [show v2 = .non from oy2]
            exact iteF (hP _ _ ⟨by rw [show v2 = .non from oy2]; rfl, s15⟩)
          | some l =>
            obtain ⟨ad, rfl, e15⟩ := oy2
            have l5 := (sy l rfl).2
            refine iteT ?_
            refine ⟨_, rfl, .inl ⟨rfl, _, SqL.of e15⟩, ad, _, .non, rfl, rfl, e15, by rw [List.length_map]; omega, fun H16 e16 b16 => ?_⟩
            exact hP _ _ ⟨rfl, same_but s15 b16 (nv2 ad rfl)⟩
      · rintro σ' H6 ⟨x7, x8, x9, x10, x11, x12, x13, rfl, s6⟩
        exact ⟨_, _, _, _, _, _, _, _, rfl, S5.trans s6⟩
    · rintro σ' H4 ⟨x6, x7, x8, x9, x10, x11, x12, x13, rfl, s4⟩
      exact q H4 (S3.trans s4)
end
end KM

set_option Elab.async false
set_option linter.all false
set_option maxRecDepth 100000
set_option maxHeartbeats 4000000
/-! defs that raise, where no repr is under way -/
namespace GL
open PySem PySem.Spec PyProof.Rows L2
section
variable {P : Program} {w : World} {K : PySem.W.Frag} {mg : Str → Option Value} {base : Heap}
theorem okGX {x qual : Str} {st : Stmt} {f : Addr} {fd : FuncData} {N ps : List Str} {k : Nat} {sp : Sp} (F : Fun K x qual st f fd)
    (S : FnScope N ps (defScope st)) (many : ∀ vs H Q E, sp vs H Q E → vs.length = ps.length)
    (hbody : ∀ (cdv : Value) (A : Around) (out : List Env) (s : Shared) (H : Hp) (vs : List V) (Q : VK) (E : XK),
      Clr (A.deeper (envOfC qual (defScope st) s.heap.objs.size f cdv)) → Room k (A.deeper (envOfC qual (defScope st) s.heap.objs.size f cdv)) → sp vs H Q E →
      ∃ t, PSs (cxOf (L2.CX P w) P w K mg base N qual (defScope st) f cdv A out s H E) (defBody st) t ∧
        t { nx := fun _ H' => Q .non H', rt := Q } (start N vs) H) : FnG P w K mg base (L2.CX P w) (k + 1) f fd ps sp := by
  obtain ⟨oc, od, kV, doc, pm, an, cdv, ct, osl, rfl, lk, hcd⟩ := F.ex
  refine body_g lk hcd S many ?_
  intro A out s H vs Q E g hr hsp
  exact hbody cdv A out s H vs Q E g hr hsp
/-- a def that may raise, bound to its name -/
structure HasX (P : Program) (w : World) (K : PySem.W.Frag) (mg : Str → Option Value) (base : Heap) (x : Str) (k : Nat) (ps : List Str) (sp : Sp) (f : Addr) : Prop where
  ex : ∃ fd, mg x = some (.ref f) ∧ PySem.W.keepIn K (.ref f) = true ∧ FnG P w K mg base (L2.CX P w) k f fd ps sp ∧ KBn K fd ps ps.length [] (fun us _ => us) (fun vs _ => vs)
end
section
variable {X : Cx} {k : Nat} {f C : Addr} {x : Str} {ps : List Str} {sp : Sp} {p pos : Pos} {e : Expr} {es : List Expr} {t : TA} {E : XK}
theorem pe_hasX (h : HasX X.prog X.w X.K X.mg X.base x k ps sp f) (g : Clr X.A) (hr : Room k X.A) (hx : Passes (L2.CX X.prog X.w) X E) (hg : Gl X x)
    (ha : PA X (e :: es) t) (hdb : (x == ("__debug__" : Str)) = false := by decide)
    (he : starEach (e :: es) X.env = (false, eval e X.env) :: starEach es X.env := by rfl)
    (hpl : ((backTo pos (starEach (e :: es) X.env)).any (·.1) || (backToKw pos (keywordEach [] X.env)).any (·.1.isNone)) = false := by rfl) :
    PE X (.Call (.Name x p) (e :: es) [] pos) (tGo ps.length 0 sp (fun vs _ => vs) E t tNil) := by
  obtain ⟨fd, a, b, c, d⟩ := h.ex
  exact pe_go g c hr hg a b d hx ha pk_nil rfl rfl hdb he hpl
/-- C(), C an own exception class without an own __init__ -/
theorem pmk_own0 {bmB : List Value} {B newId initId : String} (F : ExcBaseFacts B newId initId bmB) (q : PySem.W.excIn X.K C bmB newId = true) (gC : X.mg x = some (.ref C))
    (kC : PySem.W.keepIn X.K (.ref C) = true) (r : Raises X (.ref C)) (hg : Gl X x) (hdb : (x == ("__debug__" : Str)) = false := by decide)
    (hpl : ((backTo pos (starEach [] X.env)).any (·.1) || (backToKw pos (keywordEach [] X.env)).any (·.1.isNone)) = false := by rfl) :
    PMk X (.Call (.Name x p) [] [] pos) (fun _ H Q => Q (.ref C) none H) := by
  intro pins s σ H Q I h
  refine wpAny_Call_Name_kw (ld_glob I hg gC ?_ hdb)
  refine PySem.W.callWith_KW0 (h₀ := X.base) I.ok.mod.kin kC rfl ?_ hpl
  refine thn (pk_nil.run pos pins s σ H (fun vs H1 => vs = [] ∧ H1 = H) I ⟨rfl, rfl⟩) ?_
  rintro us s1 ⟨vs, H1, I1, r1, rfl, rfl⟩
  refine ⟨I1.kIn, ?_⟩
  cases r1
  show wpAny _ _ (call (.ref C) []) _ _ _
  obtain ⟨bm, N, nm, qn, bs, hdct, sn, sub, ab, col, dd, k0, k1, k2, k3, k5, mN, hC, hN, hni, T⟩ := exc_obj I1.kIn q
  refine wpAny_call_exc_subT F T hC hN hni (fun h' e hm => ?_) (by show 0 ≤ sizeLine; exact Nat.zero_le _)
  exact mk_of I1 hm r h (I1.hok.gone hm.new)
/-- a local that holds one of several defs; what they raise is told with the slots -/
theorem pe_locG {i n : Nat} {W : WX} {S : Addr → Prop} (g : Clr X.A) (tk : L2.Takes X W) (hr : Room k X.A)
    (A : ∀ f, S f → ∃ fd ps, ps.length = n ∧ PySem.W.keepIn X.K (.ref f) = true ∧ FnG X.prog X.w X.K X.mg X.base (L2.CX X.prog X.w) k f fd ps sp ∧ KBn X.K fd ps ps.length [] (fun us _ => us) (fun vs _ => vs))
    (hN : X.N[i]? = some x) (hv : Vis X.env.scope x) (ha : PA X (e :: es) t)
    (hdb : (x == ("__debug__" : Str)) = false := by decide) (hcd : (x == ("__classdict__" : Str)) = false := by decide)
    (he : starEach (e :: es) X.env = (false, eval e X.env) :: starEach es X.env := by rfl)
    (hpl : ((backTo pos (starEach (e :: es) X.env)).any (·.1) || (backToKw pos (keywordEach [] X.env)).any (·.1.isNone)) = false := by rfl) :
    PE X (.Call (.Name x p) (e :: es) [] pos) (fun σ H Q => ∃ f, σ[i]? = some (some (.ref f)) ∧ S f ∧ t σ H fun vs H1 => vs.length = n ∧ sp vs H1 Q (WE W σ)) := by
  refine ⟨fun pins s σ H Q I h => ?_⟩
  obtain ⟨f, hs, hS, ht⟩ := h
  obtain ⟨fd, ps, hn, hk, F, hb⟩ := A f hS
  refine wpAny_Call_Name_kw (thn ((pe_var (pos := p) hN hv hdb hcd).run pins s σ H (fun v H1 => v = .ref f ∧ H1 = H) I ⟨.ref f, hs, rfl, rfl⟩) fun u s1 ⟨v, H1, I1, r1, q1⟩ => ?_)
  obtain ⟨rfl, rfl⟩ := q1
  cases r1
  refine PySem.W.callWith_KW (h₀ := X.base) I.ok.mod.kin hk (kws := []) rfl (thn (ha.run pos pins s1 σ _ _ I1 ht) ?_) hpl he
  rintro us s2 ⟨vs, H2, I2, r, l1, q2⟩
  refine thn (pk_nil.run pos pins s2 σ H2 (fun zs H3 => zs = [] ∧ H3 = H2) I2 ⟨rfl, rfl⟩) ?_
  rintro ws s3 ⟨zs, H3, I3, rz, rfl, rfl⟩
  refine ⟨I3.kIn, ?_⟩
  have hl : us.length = ps.length := by rw [← r.length, l1, hn]
  refine wpAny_call (codeAny_mono (F.go X.A X.stack s3 H3 ⟨us, _⟩ us vs Q (WE W σ) g hr I3.env0 (hb.to s3 us ws I3.kIn hl (by cases rz; rfl)) r q2) fun r s' hq => ?_)
  cases r with
  | error er => exact passAt tk σ pins H3 s3 er s' I3 hq
  | ok fl =>
    cases fl with
    | ret u => exact I3.after hq
    | next => exact False.elim hq
    | brk => exact False.elim hq
    | cont => exact False.elim hq
end
/-- a try whose handler names one class -/
def tTryO (K : PySem.W.Frag) (c : Value) (tb : WX → TS) (ts : Addr → Value → Option Addr → TS) : TS := fun D σ H => tb (wOnly K c ts (fun _ _ _ _ => False) D) D σ H
theorem ps_tryO {X : Cx} {x : Str} {c : Value} {body suite : List Stmt} {b₀ : Stmt} {np pos pos' : Pos} {tb : WX → TS} {ts : Addr → Value → Option Addr → TS} (hs : X.stack = X.env :: X.outer) (hf : X.env.frame = some X.env.locals) (hc : Names X x c)
    (hb : ∀ (W : WX) (pn : List (Addr × Obj)) (xe : Value → Shared → Prop), L2.Takes (X.tr pn xe) W → PSs (X.tr pn xe) body (tb W))
    (hsu : ∀ (a : Addr) (oe : Obj) (cls : Value) (d : Option Addr) (pn : List (Addr × Obj)), PSs (X.suite a ((a, oe) :: pn)) (b₀ :: suite) (ts a cls d)) :
    PS X (.Try body [.ExceptHandler (some (.Name x np)) none (b₀ :: suite) pos'] [] [] pos) (tTryO X.K c tb ts) :=
  ps_try_only hs hf hc takes0 (fun W pn xe tk _ => hb W pn xe tk) (fun a oe cls d pn _ _ => hsu a oe cls d pn)
end GL

set_option Elab.async false
set_option linter.all false
set_option maxRecDepth 100000
set_option maxHeartbeats 4000000
namespace KM
open PySem PySem.Spec PyProof.Rows L2 GL
/-! where there is a ring there is no move: what is raised -/
structure NoMv (K : PySem.W.Frag) (mg : Str → Option Value) (N : Addr) : Prop where
  gC : mg "NoMove" = some (.ref N)
  ex : PySem.W.excIn K N [.type "RuntimeError", .type "Exception", .type "BaseException", .type "object"] "RuntimeError.__new__" = true
  kp : PySem.W.keepIn K (.ref N) = true
  sub : PySem.W.subIn K (.ref N) (.type "BaseException") = some true
  ty : PySem.W.typeIn K (.ref N) = some (.type "type")
  one : PySem.W.exmOne K (.ref N) (.ref N) = some true
/-- where there is a ring NoMove is let out -/
def spNo (C N : Addr) : Sp := fun vs H _ E => ∃ (m : Addr) (gs : List Str) (rs : List Row) (a b : Pt), vs = [.ref m, oV a, oV b] ∧ MovesAt C H m gs rs ∧ Fit gs rs ∧ a ∈ pts gs ∧ b ∈ pts gs ∧ a ≠ b ∧ KN.Ring rs ∧ ∀ H', Same H H' → E (.ref N) none H'
section
variable {P : Program} {w : World} {K : PySem.W.Frag} {mg : Str → Option Value} {base : Heap} {C D N : Addr}
theorem ok_cfrX {f : Addr} {fd : FuncData} (F : Fun K "_chains_for" "_chains_for" sCfr f fd) (T : Bi mg) (NM : NoMv K mg N) (M : Mv P w K mg base C) (V0 : Hv2 P w K mg base D) (CO : Has P w K mg base "chains_of" 4 ["moves"] (spCof P w C D)) (EN : Has P w K mg base "_is_one_of" 2 ["goods", "value"] (spEn K)) :
    FnG P w K mg base (L2.CX P w) 5 f fd ["moves", "first", "second"] (spNo C N) := by
  refine okGX F scCfr (fun vs H Q E h => ?_) (fun cdv A out s H vs Q E g hr h => ?_)
  · obtain ⟨m, gs, rs, a, b, rfl, _⟩ := h
    rfl
  · obtain ⟨m, gs, rs, a, b, rfl, hm, fit, ha, hb, ne, rg, q⟩ := h
    have hr1 : Room 1 _ := hr.mono (by decide)
    have hr2 : Room 2 _ := hr.mono (by decide)
    have hr3 : Room 3 _ := hr.mono (by decide)
    have hr4 : Room 4 _ := hr
    have hu := hr.units
    obtain ⟨dx, fs, em, lk⟩ := hm.ins
    refine ⟨_, (pss_cons (ps_set (i := 3) scCfr.nd rfl (.inl rfl) (pe_hasM0 M.goods M.cl g hr1 rfl (pv 0)))
      (pss_cons (ps_if (PW.pt (pw_or (pt_not (pt_val (pe_has EN g hr2 (by rfl) (pa_cons (pv 3) (pa_cons (pv 1) pa_nil))))) (pw_or (pt_not (pt_val (pe_has EN g hr2 (by rfl) (pa_cons (pv 3) (pa_cons (pv 2) pa_nil))))) (pw_or1 (pt_cmpR (op_eqD hu) (pv 1) (pv 2) (nomark _)))))) (pss_one L2.ps_never) pss_nil)
      (pss_cons (ps_set (i := 4) scCfr.nd rfl (.inl rfl) (pe_has CO g hr4 (by rfl) (pa_cons (pv 0) pa_nil)))
      (pss_cons (ps_if (pt_val (pe_hasM0 V0.has V0.cl g hr3 rfl (pv 4))) (pss_one (ps_raise rfl (takes_of rfl rfl rfl rfl) (pmk_own0 PySem.F.excBase_RuntimeError NM.ex NM.gC NM.kp (raises_own NM.sub NM.ty) (by rfl)))) pss_nil)
      (pss_one (ps_ret (pv 4))))))), ?_⟩
    refine ⟨_, rfl, m, dx, fs, rfl, em, lk _ (by decide +kernel) (by decide +kernel), rfl, rfl, m, gs, rs, rfl, hm, fun G H1 nG eG sG => ?_⟩
    refine ⟨_, rfl, _, rfl, rfl, rfl, a, G, gs, rfl, .inl (SqL.of eG), pts_ok ha, fun H2 s2 => ⟨_, rfl, iteF ?_⟩⟩
    refine ⟨_, rfl, _, rfl, rfl, rfl, b, G, gs, rfl, .inl (SqL.of (s2 _ _ eG)), pts_ok hb, fun H3 s3 => ⟨_, rfl, iteF ?_⟩⟩
    refine ⟨_, rfl, _, rfl, oD a, oD b, dp_o _, dp_o _, shaped_o fit.g _ (pts_ok ha), shaped_o fit.g _ (pts_ok hb), _, rfl, ?_⟩
    rw [eqv_o, decide_eq_false ne]
    refine iteF ?_
    have S3 := (sG.trans s2).trans s3
    refine ⟨_, rfl, rfl, rfl, m, gs, rs, rfl, hm.same S3, fit, fun c H4 n4 ch s4 => ?_⟩
    obtain ⟨dz, fq, eo, lkc⟩ := ch.ins
    refine ⟨_, rfl, c, dz, fq, rfl, eo, lkc _ (by decide +kernel) (by decide +kernel) (by decide +kernel) (by decide +kernel), rfl, rfl, ?_⟩
    refine ⟨c, gs, rs, rfl, ch, cfit fit, fun hg H5 s5 => ⟨_, rfl, iteT ?_⟩, fun hg H5 s5 => absurd rg hg⟩
    exact q H5 ((S3.trans s4).trans s5)
theorem ok_tgtX {f fc : Addr} {fd : FuncData} (F : Fun K "tightest" "tightest" sTgt f fd) (T : Bi mg) (V0 : Hv2 P w K mg base D) (CF : HasX P w K mg base "_chains_for" 5 ["moves", "first", "second"] (spNo C N) fc) :
    FnG P w K mg base (L2.CX P w) 6 f fd ["moves", "first", "second"] (spNo C N) := by
  refine okGX F scTgt (fun vs H Q E h => ?_) (fun cdv A out s H vs Q E g hr h => ?_)
  · obtain ⟨m, gs, rs, a, b, rfl, _⟩ := h
    rfl
  · obtain ⟨m, gs, rs, a, b, rfl, hm, fit, ha, hb, ne, rg, q⟩ := h
    have hr1 : Room 1 _ := hr.mono (by decide)
    have hr5 : Room 5 _ := hr
    refine ⟨_, (pss_one (ps_ret (pe_hasM (n := 2) V0.ti V0.cl g hr1 rfl (pe_hasX CF g hr5 (passes_call (takes_of rfl rfl rfl rfl) (fun _ _ _ _ h => h)) (by rfl) (pa_cons (pv 0) (pa_cons (pv 1) (pa_cons (pv 2) pa_nil)))) (pa_cons (pv 1) (pa_cons (pv 2) pa_nil))))), ?_⟩
    exact ⟨_, rfl, _, rfl, _, rfl, rfl, rfl, m, gs, rs, a, b, rfl, hm, fit, ha, hb, ne, rg, q⟩
theorem ok_chnX {f fc : Addr} {fd : FuncData} (F : Fun K "chain" "chain" sChn f fd) (T : Bi mg) (V0 : Hv2 P w K mg base D) (CF : HasX P w K mg base "_chains_for" 5 ["moves", "first", "second"] (spNo C N) fc) :
    FnG P w K mg base (L2.CX P w) 6 f fd ["moves", "first", "second"] (spNo C N) := by
  refine okGX F scChn (fun vs H Q E h => ?_) (fun cdv A out s H vs Q E g hr h => ?_)
  · obtain ⟨m, gs, rs, a, b, rfl, _⟩ := h
    rfl
  · obtain ⟨m, gs, rs, a, b, rfl, hm, fit, ha, hb, ne, rg, q⟩ := h
    have hr2 : Room 2 _ := hr.mono (by decide)
    have hr5 : Room 5 _ := hr
    refine ⟨_, (pss_one (ps_ret (pe_hasM (n := 2) V0.cn V0.cl g hr2 rfl (pe_hasX CF g hr5 (passes_call (takes_of rfl rfl rfl rfl) (fun _ _ _ _ h => h)) (by rfl) (pa_cons (pv 0) (pa_cons (pv 1) (pa_cons (pv 2) pa_nil)))) (pa_cons (pv 1) (pa_cons (pv 2) pa_nil))))), ?_⟩
    exact ⟨_, rfl, _, rfl, _, rfl, rfl, rfl, m, gs, rs, a, b, rfl, hm, fit, ha, hb, ne, rg, q⟩
end
abbrev sNmv : Stmt := top 73
abbrev nNmv : List Str := ["_law_moves", "_law_goods", "_law_told", "_law_call"]
theorem scNmv : FnScope nNmv ["_law_moves", "_law_goods"] (defScope sNmv) := ⟨rfl, rfl, rfl, by decide +kernel, rfl, by decide +kernel, by decide +kernel⟩
def spNmv (C : Addr) : Sp := fun vs H Q _ => ∃ (m G : Addr) (gs : List Str) (rs : List Row), vs = [.ref m, .ref G] ∧ MovesAt C H m gs rs ∧ Fit gs rs ∧ H G = some (.lst (gs.map V.str)) ∧ gs ≠ [] ∧ KN.Ring rs ∧ ∀ H', Same H H' → Q (.bl true) H'
/-- the callee -/
def tNo (sp : Sp) (S : Addr → Prop) (i n : Nat) (t : TA) (W : WX) : TE := fun σ H Q => ∃ f, σ[i]? = some (some (.ref f)) ∧ S f ∧ t σ H fun vs H1 => vs.length = n ∧ sp vs H1 Q (WE W σ)
section
variable {P : Program} {w : World} {K : PySem.W.Frag} {mg : Str → Option Value} {base : Heap} {C D N fT fC : Addr}
theorem ok_nomove {f : Addr} {fd : FuncData} (F : Fun K "_law_no_move" "_law_no_move" sNmv f fd) (T : Bi mg) (NM : NoMv K mg N) (TX : HasX P w K mg base "tightest" 6 ["moves", "first", "second"] (spNo C N) fT) (CX : HasX P w K mg base "chain" 6 ["moves", "first", "second"] (spNo C N) fC) :
    FnG P w K mg base CX0 7 f fd ["_law_moves", "_law_goods"] (spNmv C) := by
  refine okG F scNmv (fun vs H Q E h => ?_) (fun cdv A out s H vs Q E g hr h => ?_)
  · obtain ⟨m, G, gs, rs, rfl, _⟩ := h
    rfl
  · obtain ⟨m, G, gs, rs, rfl, hm, fit, eG, gne, rg, q⟩ := h
    have hr6 : Room 6 _ := hr
    have szl := sizeLine_eq
    have mT : mg "tightest" = some (.ref fT) := by obtain ⟨_, z, _⟩ := TX.ex; exact z
    have mC : mg "chain" = some (.ref fC) := by obtain ⟨_, z, _⟩ := CX.ex; exact z
    have both : ∀ a, (a = fT ∨ a = fC) → ∃ fd ps, ps.length = 3 ∧ PySem.W.keepIn K (.ref a) = true ∧ FnG P w K mg base (L2.CX P w) 6 a fd ps (spNo C N) ∧ KBn K fd ps ps.length [] (fun us _ => us) (fun vs _ => vs) := by
      rintro a (rfl | rfl)
      · obtain ⟨fd, _, b, c, d⟩ := TX.ex
        exact ⟨fd, _, rfl, b, c, d⟩
      · obtain ⟨fd, _, b, c, d⟩ := CX.ex
        exact ⟨fd, _, rfl, b, c, d⟩
    refine ⟨_, (pss_cons (ps_set (i := 2) scNmv.nd rfl (.inl rfl) pe_int)
      (pss_cons (ps_for PassesOwn.never rfl (pi_list (pe_lstL (pa_cons (pe_glob (v := .ref fT) (by rfl) mT rfl) (pa_cons (pe_glob (v := .ref fC) (by rfl) mC rfl) pa_nil)))) (pg_name (i := 3) scNmv.nd rfl (.inl rfl))
      (pss_one (ps_tryO (tb := fun W => tDrop (tNo (spNo C N) (fun a => a = fT ∨ a = fC) 3 3 (tCons (tVar 0) (tCons (tOp (rIxL K) (tVar 1) (tC (.int 0))) (tCons (tC .non) tNil))) W)) (ts := fun _ _ _ => tAsg (tOp (rI0 fun i j => V.int (i + j)) (tVar 2) (tC (.int 1))) (gName 2)) rfl rfl ⟨rfl, by decide, Or.inl NM.gC⟩ (fun W pn xe tk => pss_one (ps_expr (by exact (pe_locG (i := 3) (n := 3) (S := fun a => a = fT ∨ a = fC) (sp := spNo C N) g tk hr6 both (by rfl) (.inl rfl) (pa_cons (pv 0) (pa_cons (pe_ix ix_list (pv 1) pe_int (fun _ _ => rfl)) (pa_cons pe_non pa_nil))))))) (fun a oe cls d pn => pss_one (ps_set (i := 2) scNmv.nd rfl (.inl rfl) (pe_op op_add (pv 2) pe_int))))))
      (pss_one (ps_ret (pe_cmpR op_eq (pv 2) pe_int (nomark _)))))), ?_⟩
    obtain ⟨g0, gt, rfl⟩ : ∃ g0 gt, gs = g0 :: gt := by
      cases gs with
      | nil => exact absurd rfl gne
      | cons a b => exact ⟨a, b, rfl⟩
    refine ⟨by show 2 ≤ sizeLine; omega, fun L H1 n1 e1 s1 => ?_⟩
    refine ⟨L, rfl, ⟨_, SqL.of e1⟩, ?_⟩
    refine for_list (K := K) (a := L) (xs := [.ref fT, .ref fC]) (fun i σ' H' => ∃ x3 : Option V, σ' = [some (.ref m), some (.ref G), some (.int i), x3] ∧ Same H1 H') ?_ ?_ ?_ ?_
    · exact ⟨_, rfl, Same.refl' _⟩
    · rintro i σ' H' _ ⟨_, rfl, z⟩
      exact SqL.of (z _ _ e1)
    · rintro i x σ' H2 hi ⟨x3, rfl, s2⟩
      have S2 := s1.trans s2
      have hx : ∃ a, x = .ref a ∧ (a = fT ∨ a = fC) := by
        match i, hi with
        | 0, hi => cases hi; exact ⟨_, rfl, .inl rfl⟩
        | 1, hi => cases hi; exact ⟨_, rfl, .inr rfl⟩
      obtain ⟨a, rfl, ha⟩ := hx
      refine ⟨a, rfl, ha, ?_⟩
      refine ⟨_, rfl, _, rfl, G, _, _, .str g0, rfl, rfl, SqL.of (S2 _ _ eG), atI_nat (i := 0) rfl, rfl, m, _, rs, some g0, none, rfl, hm.same S2, fit, by simp [pts], by simp [pts], by simp, rg, fun H3 s3 => ?_⟩
      refine ⟨true, NM.one, fun _ a0 _ => ?_, fun z => by cases z⟩
      refine ⟨_, rfl, _, _, rfl, rfl, some (.ref a), ?_, s2.trans s3⟩

      rfl
    · rintro σ' H2 ⟨x3, rfl, s2⟩
      refine ⟨_, rfl, rfl, ?_⟩
      rw [decide_eq_true (show V.int (([V.ref fT, V.ref fC].length : Nat) : Int) = V.int 2 from rfl)]
      exact q H2 (s1.trans s2)
end
end KM

set_option Elab.async false
set_option linter.all false
set_option maxRecDepth 100000
set_option maxHeartbeats 4000000
namespace KM
open PySem PySem.Spec PyProof.Rows L2 GL
/-! moves near a great bound, by the law -/
abbrev sNr : Stmt := top 75
abbrev nNr : List Str := ["_law_great", "_law_moves", "_law_told", "_law_change"]
theorem scNr : FnScope nNr [] (defScope sNr) := ⟨rfl, rfl, rfl, by decide +kernel, rfl, by decide +kernel, by decide +kernel⟩
def spNr : Sp := fun vs H Q _ => vs = [] ∧ ∀ H', Same H H' → Q (.bl true) H'
abbrev xS : Str := "x"
abbrev xRow (z : Int) : List Row := [(some xS, none, z)]
abbrev nearB : List Bool := [true, false, false, true, true]
/-- the changes of the one good -/
def chX (q : Rat) : Pt → Rat
  | none => 0
  | some _ => q
theorem near_brk {z t : Int} {n : Nat} {b : Bool} (hn : 0 < n) (e : b = decide (t ≤ z * n)) : (List.range (xRow z).length).filter (brk (chX (mkRat t n)) (xRow z)) = if b then [] else [0] := by
  have z0 : mkRat t n - 0 ≤ (z : Rat) ↔ t ≤ z * n := by
    have := mk_sub_le t 0 z n hn
    rw [Rat.zero_mkRat, Int.sub_zero] at this
    exact this
  have h1 : brk (chX (mkRat t n)) (xRow z) 0 = !b := by
    show (!decide (mkRat t n - 0 ≤ (z : Rat))) = !b
    rw [e]
    congr 1
    exact decide_eq_decide.mpr z0
  show [0].filter _ = _
  rw [List.filter_cons, h1]
  cases b <;> rfl
theorem near_kept {z t : Int} {n : Nat} {b : Bool} (hn : 0 < n) (e : b = decide (t ≤ z * n)) : KeptQ (chX (mkRat t n)) (xRow z) ↔ b = true := by
  rw [← brk_none, near_brk hn e]
  cases b <;> simp
/-- what is told of one change: the broken conditions, whether it is a move -/
def EntAt (H : Hp) (t : Addr) (b : Bool) : Prop := ∃ l, H t = some (.lst [.ref l, .bl b]) ∧ H l = some (.lst (if b then [] else [.int 0]))
theorem EntAt.same {H H' : Hp} {t : Addr} {b : Bool} (h : EntAt H t b) (s : Same H H') : EntAt H' t b := by
  obtain ⟨l, e1, e2⟩ := h
  exact ⟨l, s _ _ e1, s _ _ e2⟩
def EntOff (H : Hp) (T t : Addr) (b : Bool) : Prop := t ≠ T ∧ ∃ l, l ≠ T ∧ H t = some (.lst [.ref l, .bl b]) ∧ H l = some (.lst (if b then [] else [.int 0]))
theorem EntOff.at {H : Hp} {T t : Addr} {b : Bool} (h : EntOff H T t b) : EntAt H t b := by
  obtain ⟨_, l, _, e1, e2⟩ := h
  exact ⟨l, e1, e2⟩
theorem EntOff.but {H H' : Hp} {T t : Addr} {b : Bool} (h : EntOff H T t b) (s : But T H H') : EntOff H' T t b := by
  obtain ⟨n1, l, n2, e1, e2⟩ := h
  exact ⟨n1, l, n2, s _ _ n1 e1, s _ _ n2 e2⟩
theorem disp_x {σ : L2.St} {H : Hp} {Q : VK} {v : V} {i : Nat} (hv : σ[i]? = some (some v)) (h : ∀ d H', H d = none → H' d = some (.dK (kvD [xS] fun _ => v)) → Same H H' → Q (.ref d) H') : tDisp [(tC (.str xS), tVar i)] σ H Q :=
  fun p np => ⟨v, hv, upd_same, [(.inr xS, v)], rfl, by show 1 ≤ 15; omega, h p _ np upd_same fun a o e => by rw [upd_ne (ne_of_none e np), upd_ne (ne_of_none e np)]; exact e⟩
def entD (b : Bool) : PyData := .list [.list (if b then [] else [.int 0]), .bool b]
theorem EntAt.dp {K : PySem.W.Frag} {H : Hp} {t : Addr} {b : Bool} (h : EntAt H t b) : Dp K H (.ref t) (entD b) := by
  obtain ⟨l, e1, e2⟩ := h
  cases b with
  | true => exact .lst (SqL.of e1) (.cons (.lst (SqL.of e2) .nil) (.cons (.bl _) .nil))
  | false => exact .lst (SqL.of e1) (.cons (.lst (SqL.of e2) (.cons (.int _) .nil)) (.cons (.bl _) .nil))
theorem ents_dp {K : PySem.W.Frag} {H : Hp} {T : Addr} {ts : List Addr} {bs : List Bool} (e : H T = some (.lst (ts.map V.ref))) (h : Paired (EntAt H) ts bs) : Dp K H (.ref T) (.list (bs.map entD)) := by
  refine .lst (SqL.of e) ?_
  clear e
  induction h with
  | nil => exact .nil
  | cons a _ ih => exact .cons a.dp ih
theorem ent_go {H : Hp} {Q : VK} {b : Bool} (h : ∀ p H', EntAt H' p b → Same H H' → Q (.ref p) H') : ∀ l H1, H l = none → H1 l = some (.lst (if b then [] else [.int 0])) → Same H H1 → ∀ p H2, H1 p = none → H2 p = some (.lst [.ref l, .bl b]) → Same H1 H2 → Q (.ref p) H2 :=
  fun l H1 n1 e1 s1 p H2 n2 e2 s2 => h p H2 ⟨l, e2, s2 _ _ e1⟩ (s1.trans s2)
section
variable {P : Program} {w : World} {K : PySem.W.Frag} {mg : Str → Option Value} {base : Heap} {C R : Addr}
theorem ok_nearright {f : Addr} {fd : FuncData} (F : Fun K "_law_near_right" "_law_near_right" sNr f fd) (T : Bi mg) (M : Mv P w K mg base C) (C2 : Rc K mg R) (MK2 : HasC P w K mg base R 2 ["self", "top", "bottom"] (spQi R) 2 [] (fun vs _ => vs))
    (BR : Has P w K mg base "broken" 7 ["moves", "move"] (spPb2 C R)) (IM : Has P w K mg base "is_move" 7 ["moves", "value"] (spIsm2 C R)) :
    FnG P w K mg base CX0 8 f fd [] spNr := by
  refine okG F scNr (fun vs H Q E h => ?_) (fun cdv A out s H vs Q E g hr h => ?_)
  · obtain ⟨rfl, _⟩ := h
    rfl
  · obtain ⟨rfl, q⟩ := h
    have hr7 : Room 7 _ := hr
    have hr3 : Room 3 _ := hr.mono (by decide)
    have hu := hr.units
    have szl := sizeLine_eq
    refine ⟨_, (pss_cons (ps_set (i := 0) scNr.nd rfl (.inl rfl) (pe_op op_pow pe_int pe_int))
      (pss_cons (ps_par (i := 1) (j := 2) (by rfl) scNr.nd rfl rfl (by decide) rfl rfl (pa_cons (pe_hasC M.mk2 g hr7 (by rfl) M.gM (pa_cons (pe_lstL (pa_cons pe_str pa_nil)) (pa_cons (pe_lstL (pa_cons (pe_tupL (pa_cons pe_str (pa_cons pe_non (pa_cons (pv 0) pa_nil)))) pa_nil)) pa_nil)) pk_nil) (pa_cons (pe_lstL pa_nil) pa_nil)) (by rfl))
      (pss_cons (ps_for PassesOwn.never rfl (pi_list (pe_lstL (pa_cons (pv 0) (pa_cons (pe_op op_add (pv 0) pe_int) (pa_cons (pe_hasC MK2 g hr3 (by rfl) C2.gR (pa_cons (pe_op op_add (pe_op op_mul (pv 0) pe_int) pe_int) (pa_cons pe_int pa_nil)) pk_nil) (pa_cons (pe_hasC MK2 g hr3 (by rfl) C2.gR (pa_cons (pe_op op_sub (pe_op op_mul (pv 0) pe_int) pe_int) (pa_cons pe_int pa_nil)) pk_nil) (pa_cons (pe_op op_sub pe_int (pv 0)) pa_nil))))))) (pg_name (i := 3) scNr.nd rfl (.inl rfl))
      (pss_one (ps_expr (pe_bm PySem.F.plainAttrs_list PySem.F.slot_list_append PySem.F.type_list_append mt_appL (pv 2) (pa_cons (pe_lstL (pa_cons (pe_has BR g hr7 (by rfl) (pa_cons (pv 1) (pa_cons (pe_disp (pps_cons pe_str (pv 3) pps_nil) rfl rfl (by simp) (by decide)) pa_nil))) (pa_cons (pe_has IM g hr7 (by rfl) (pa_cons (pv 1) (pa_cons (pe_disp (pps_cons pe_str (pv 3) pps_nil) rfl rfl (by simp) (by decide)) pa_nil))) pa_nil))) pa_nil)))))
      (pss_one (ps_ret (pe_cmpR (op_eqD hu) (pv 2) (pe_lstL (pa_cons (pe_lstL (pa_cons (pe_lstL pa_nil) (pa_cons pe_bl pa_nil))) (pa_cons (pe_lstL (pa_cons (pe_lstL (pa_cons pe_int pa_nil)) (pa_cons pe_bl pa_nil))) (pa_cons (pe_lstL (pa_cons (pe_lstL (pa_cons pe_int pa_nil)) (pa_cons pe_bl pa_nil))) (pa_cons (pe_lstL (pa_cons (pe_lstL pa_nil) (pa_cons pe_bl pa_nil))) (pa_cons (pe_lstL (pa_cons (pe_lstL pa_nil) (pa_cons pe_bl pa_nil))) pa_nil)))))) (nomark _))))))), ?_⟩
    refine ⟨_, _, rfl, rfl, ⟨by decide, by decide, by decide⟩, ?_⟩
    obtain ⟨z, hz⟩ : ∃ z : Int, (10 : Int) ^ (20 : Int).toNat = z := ⟨_, rfl⟩
    have z30 : z.natAbs ≤ 1000000000000000000000000000000 := by rw [← hz]; decide +kernel
    have d1 : Bd 400 (mkRat z 1) := mk_bd (by decide) (by rw [← hz]; decide +kernel) (by decide +kernel)
    have d2 : Bd 400 (mkRat (z + 1) 1) := mk_bd (by decide) (by rw [← hz]; decide +kernel) (by decide +kernel)
    have d3 : Bd 400 (mkRat (z * 3 + 1) 3) := mk_bd (by decide) (by rw [← hz]; decide +kernel) (by decide +kernel)
    have d4 : Bd 400 (mkRat (z * 3 - 1) 3) := mk_bd (by decide) (by rw [← hz]; decide +kernel) (by decide +kernel)
    have d5 : Bd 400 (mkRat (0 - z) 1) := mk_bd (by decide) (by rw [← hz]; decide +kernel) (by decide +kernel)
    have u3 : (z * 3 + 1).natAbs < 2 ^ 3000 := by rw [← hz]; decide +kernel
    have u4 : (z * 3 - 1).natAbs < 2 ^ 3000 := by rw [← hz]; decide +kernel
    have zp : 0 < z := by rw [← hz]; decide +kernel
    rw [show (fun i j : Int => V.int (i ^ j.toNat)) 10 20 = V.int z from congrArg V.int hz]
    clear hz
    refine ⟨by show 1 ≤ sizeLine; omega, fun G H1 nG eG sG => ?_⟩
    refine ⟨_, rfl, by show 3 ≤ sizeLine; omega, fun t H2 nt et st => ⟨by show 1 ≤ sizeLine; omega, fun B H3 nB eB sB => ⟨rfl, rfl, ?_⟩⟩⟩
    have GG : GoodGs [xS] := menu_good _ (by decide +kernel)
    have good : GoodRows [xS] (xRow z) := fun r hr => by
      obtain rfl := List.mem_singleton.mp hr
      exact ⟨by simp, fun x hx => by rw [← Option.some.inj hx]; exact List.mem_singleton.mpr rfl, fun x hx => (by cases (show (none : Option Str) = some x from hx)), z30⟩
    have srt : sortedS [xS] = true := by decide +kernel
    refine q_new (K := K) (gs := [xS]) (rs := xRow z) (as := [t]) (.inl (SqL.of ((st.trans sB) _ _ eG))) (.inl (SqL.of eB)) (.cons (sB _ _ et) .nil) GG good (by show 1 ≤ 24; omega) fun m hs H4 nm pm fm mx s4 => ?_
    have ehs : hs = [xS] := sorted_one pm fm.s srt
    subst ehs
    have mxa := mx.at
    refine ⟨by show 0 ≤ sizeLine; omega, fun TT H5 nT eT s5 => ?_⟩
    have S4 := ((sG.trans st).trans sB).trans s4
    -- the changes
    refine ⟨_, _, rfl, _, rfl, _, rfl, _, _, rfl, rfl, _, rfl, _, _, rfl, rfl, .inr ⟨by decide, by decide⟩, _, _, rfl, rfl, rfl, rfl, ?_⟩
    refine q_mk (t := z * 3 + 1) (n := 3) (by decide) u3 (by decide +kernel) fun r1 H6 n6 rt1 s6 => ?_
    refine ⟨_, rfl, _, _, rfl, rfl, .inr ⟨by decide, by decide⟩, _, _, rfl, rfl, rfl, rfl, ?_⟩
    refine q_mk (t := z * 3 - 1) (n := 3) (by decide) u4 (by decide +kernel) fun r2 H7 n7 rt2 s7 => ?_
    refine ⟨_, rfl, _, _, rfl, rfl, by show 5 ≤ sizeLine; omega, fun L H8 n8 e8 s8 => ?_⟩
    have S8 := ((s5.trans s6).trans s7).trans s8
    have e8T := ((s6.trans s7).trans s8) _ _ eT
    have nT : H4 TT = none := nT
    have nLT : L ≠ TT := (ne_of_none ((s6.trans s7) _ _ eT) n8).symm
    have q8 : RatQ R H8 r1 (mkRat (z * 3 + 1) 3) := rt1.same (s7.trans s8)
    have q9 : RatQ R H8 r2 (mkRat (z * 3 - 1) 3) := rt2.same s8
    refine ⟨L, rfl, ⟨_, SqL.of e8⟩, ?_⟩
    refine for_list (K := K) (a := L) (xs := [.int z, .int (z + 1), .ref r1, .ref r2, .int (0 - z)]) (fun i σ' H' => ∃ (x3 : Option V) (ts : List Addr), σ' = [some (.int z), some (.ref m), some (.ref TT), x3] ∧ But TT H8 H' ∧ H' TT = some (.lst (ts.map V.ref)) ∧ Paired (EntOff H' TT) ts (nearB.take i)) ?_ ?_ ?_ ?_
    · exact ⟨_, [], rfl, But.refl, ((s6.trans s7).trans s8) _ _ eT, .nil⟩
    · rintro i σ' H' _ ⟨_, _, rfl, b, _, _⟩
      exact SqL.of (b _ _ nLT e8)
    · rintro i x σ' H9 hi ⟨x3, ts, rfl, b9, e9, p9⟩
      have hx : ∃ (t : Int) (n : Nat) (b : Bool), NumV R H8 x (mkRat t n) ∧ 0 < n ∧ Bd 400 (mkRat t n) ∧ b = decide (t ≤ z * n) ∧ nearB[i]? = some b := by
        match i, hi with
        | 0, hi => cases hi; exact ⟨z, 1, true, .inl ⟨_, rfl, Rat.mkRat_one _⟩, by decide, d1, (decide_eq_true (by omega)).symm, rfl⟩
        | 1, hi => cases hi; exact ⟨z + 1, 1, false, .inl ⟨_, rfl, Rat.mkRat_one _⟩, by decide, d2, (decide_eq_false (by omega)).symm, rfl⟩
        | 2, hi => cases hi; exact ⟨_, 3, false, .inr ⟨_, rfl, q8⟩, by decide, d3, (decide_eq_false (by omega)).symm, rfl⟩
        | 3, hi => cases hi; exact ⟨_, 3, true, .inr ⟨_, rfl, q9⟩, by decide, d4, (decide_eq_true (by omega)).symm, rfl⟩
        | 4, hi => cases hi; exact ⟨0 - z, 1, true, .inl ⟨_, rfl, Rat.mkRat_one _⟩, by decide, d5, (decide_eq_true (by omega)).symm, rfl⟩
      obtain ⟨tt, n, b, nv, n0, bd, eb, hb⟩ := hx
      have S9 : Same H4 H9 := same_but S8 b9 nT
      have m9 : MovesAt C H9 m [xS] (xRow z) := mxa.same S9
      have nv9 : NumV R H9 x (mkRat tt n) := nv.imp id fun ⟨a, e, dx, er⟩ => ⟨a, e, dx, b9 _ _ (ne_of er e8T (by intro q; cases q)) er⟩
      have num : ∀ {Hx : Hp} {d : Addr}, Same H9 Hx → Hx d = some (.dK (kvD [xS] fun _ => x)) → NumD R Hx d [xS] (chX (mkRat tt n)) := fun {Hx d} sx ed => ⟨_, ed, fun y hy => ⟨nv9.same sx, bd⟩⟩
      refine ⟨_, rfl, .inl ⟨rfl, _, SqL.of e9⟩, ?_⟩
      refine ⟨_, rfl, disp_x rfl fun d1 H10 n10 e10 s10 => ⟨rfl, rfl, ?_⟩⟩
      refine ⟨m, d1, [xS], xRow z, [xS], _, rfl, m9.same s10, fm, num s10 e10, List.Perm.refl _, rfl, fun L1 H11 n11 e11 s11 => ?_⟩
      rw [near_brk n0 eb] at e11
      have s911 := s10.trans s11
      refine ⟨_, rfl, disp_x rfl fun d2 H12 n12 e12 s12 => ⟨rfl, rfl, ?_⟩⟩
      have s912 := s911.trans s12
      refine ⟨m, d2, [xS], xRow z, [xS], _, rfl, m9.same s912, fm, num s912 e12, List.Perm.refl _, rfl, fun bb H13 hbb s13 => ?_⟩
      rw [near_kept n0 eb] at hbb
      have ebb : bb = b := Bool.eq_iff_iff.mpr hbb
      subst ebb
      refine ⟨by show 2 ≤ sizeLine; omega, fun U H14 n14 e14 s14 => ?_⟩
      have s914 := (s912.trans s13).trans s14
      have lt := Paired.length p9
      refine ⟨TT, _, _, rfl, rfl, s914 _ _ e9, small1000 (by rw [List.length_map, lt, List.length_take]; show min i 5 ≤ 1000; omega), fun H15 e15 b15 => ?_⟩
      have b915 : But TT H9 H15 := (But.of s914).trans b15
      have nU : U ≠ TT := ne_of_none ((s912.trans s13) _ _ e9) n14 |>.symm
      have nL1 : L1 ≠ TT := ne_of_none (s10 _ _ e9) n11 |>.symm
      refine ⟨_, ts ++ [U], rfl, b9.trans b915, by rw [e15, List.map_append]; rfl, ?_⟩
      rw [take_more hb]
      refine snocP (L2.Paired.mapP p9 fun t b h => h.but b915) ⟨nU, L1, nL1, b15 _ _ nU e14, b15 _ _ nL1 (((s12.trans s13).trans s14) _ _ ?_)⟩
      rw [e11]
      cases bb <;> rfl
    · rintro σ' H9 ⟨x3, ts, rfl, b9, e9, p9⟩
      have s49 : Same H H9 := S4.trans (same_but S8 b9 nT)
      refine ⟨_, rfl, ?_⟩
      refine ⟨by show 0 ≤ sizeLine; omega, fun l0 A0 _ f0 s0' => ⟨by show 2 ≤ sizeLine; omega, fun p0 B0 _ g0 t0 => ?_⟩⟩
      refine ⟨by show 1 ≤ sizeLine; omega, fun l1 A1 _ f1 s1' => ⟨by show 2 ≤ sizeLine; omega, fun p1 B1 _ g1 t1 => ?_⟩⟩
      refine ⟨by show 1 ≤ sizeLine; omega, fun l2 A2 _ f2 s2' => ⟨by show 2 ≤ sizeLine; omega, fun p2 B2 _ g2 t2 => ?_⟩⟩
      refine ⟨by show 0 ≤ sizeLine; omega, fun l3 A3 _ f3 s3' => ⟨by show 2 ≤ sizeLine; omega, fun p3 B3 _ g3 t3 => ?_⟩⟩
      refine ⟨by show 0 ≤ sizeLine; omega, fun l4 A4 _ f4 s4' => ⟨by show 2 ≤ sizeLine; omega, fun p4 B4 _ g4 t4 => ?_⟩⟩
      refine ⟨by show 5 ≤ sizeLine; omega, fun V1 J1 _ j1 v1 => ?_⟩
      have w4 := v1
      have w3 := (s4'.trans t4).trans w4
      have w2 := (s3'.trans t3).trans w3
      have w1 := (s2'.trans t2).trans w2
      have w0 := (s1'.trans t1).trans w1
      have wA := (s0'.trans t0).trans w0
      have ents : Paired (EntAt J1) [p0, p1, p2, p3, p4] nearB := .cons ⟨l0, w0 _ _ g0, (t0.trans w0) _ _ f0⟩ (.cons ⟨l1, w1 _ _ g1, (t1.trans w1) _ _ f1⟩ (.cons ⟨l2, w2 _ _ g2, (t2.trans w2) _ _ f2⟩ (.cons ⟨l3, w3 _ _ g3, (t3.trans w3) _ _ f3⟩ (.cons ⟨l4, w4 _ _ g4, (t4.trans w4) _ _ f4⟩ .nil))))
      have dn : Dp K J1 (.ref TT) (.list (nearB.map entD)) := ents_dp (wA _ _ e9) (L2.Paired.mapP p9 fun t b h => h.at.same wA)
      refine ⟨_, _, dn, ents_dp (ts := [p0, p1, p2, p3, p4]) j1 ents, by decide +kernel, by decide +kernel, ?_⟩
      rw [show PyData.eqv (.list (nearB.map entD)) (.list (nearB.map entD)) = true from by decide +kernel]
      exact q J1 (s49.trans wA)
end
end KM

set_option Elab.async false
set_option linter.all false
set_option maxRecDepth 100000
set_option maxHeartbeats 4000000
namespace KM
open PySem PySem.Spec PyProof.Rows L2 GL
open StX (pa_star)
/-! moves with one condition more -/
/-- moves + condition -/
structure MvP (P : Program) (w : World) (K : PySem.W.Frag) (mg : Str → Option Value) (base : Heap) (C : Addr) : Prop where
  add : HasM P w K mg base C (PySem.dunder "add") 8 ["self", "other"] (spAdd C)
  addc : AddC K C
theorem addm_ref {C : Addr} (vs : List V) (H : Hp) (Q : VK) (h : spAdd C vs H Q E0) : spAdd C vs H (fun v H1 => (∃ a, v = .ref a) ∧ Q v H1) E0 := by
  obtain ⟨m, t, gs, rs, r, e, a, b, c, d, n, q⟩ := h
  exact ⟨m, t, gs, rs, r, e, a, b, c, d, n, fun x H' h1 h2 h3 => ⟨⟨x, rfl⟩, q x H' h1 h2 h3⟩⟩
section
variable {P : Program} {w : World} {K : PySem.W.Frag} {mg : Str → Option Value} {base : Heap} {C : Addr}
theorem scAdd : FnScope ["self", "other"] ["self", "other"] (defScope (mth 6)) := ⟨rfl, rfl, rfl, by decide +kernel, rfl, by decide +kernel, by decide +kernel⟩
theorem ok_add {f : Addr} {fd : FuncData} (F : Fun K "__add__" "Moves.__add__" (mth 6) f fd) (T : Bi mg) (F4 : Cf K mg C) (CO : Has P w K mg base "_is_condition" 3 ["goods", "value"] (spCo K))
    (MK : HasC P w K mg base C 6 ["self", "goods", "conditions"] (spInit K C) 2 [] (fun vs _ => vs)) : FnG P w K mg base CX0 8 f fd ["self", "other"] (spAdd C) := by
  refine okG F scAdd (fun vs H Q E h => ?_) (fun cdv A out s H vs Q E g hr h => ?_)
  · obtain ⟨m, t, gs, rs, r, rfl, _⟩ := h
    rfl
  · obtain ⟨m, t, gs, rs, r, rfl, hm, fit, et, gr, len, q⟩ := h
    have hr2 : Room 3 _ := hr.mono (by decide)
    obtain ⟨dx, gg, c, as, e1, e2, e3, e4⟩ := id hm
    have la : (as.map V.ref).length = rs.length := by rw [List.length_map]; exact Paired.length e4
    have sz := sizeLine_eq
    refine ⟨_, (pss_cons (ps_if (pt_not (pt_val (pe_has CO g hr2 (by rfl) (pa_cons (pe_fld (pv 0) rfl) (pa_cons (pv 1) pa_nil))))) (pss_one L2.ps_never) pss_nil)
      (pss_one (ps_ret (pe_hasC MK g hr (by rfl) F4.gM (pa_cons (pe_fld (pv 0) rfl) (pa_cons (pe_lstL (pa_star (pe_fld (pv 0) rfl) (pa_cons (pv 1) pa_nil))) pa_nil)) pk_nil)))), ?_⟩
    refine ⟨_, rfl, m, C, dx, _, _, rfl, e1, F4.cl, F4.nG, lk_g gg c, _, rfl, rfl, rfl, t, gg, gs, r, rfl, et, .inl (SqL.of e2), fit.g, gr, fun H1 s1 => ⟨_, rfl, ?_⟩⟩
    refine iteF ?_
    refine ⟨_, rfl, m, C, dx, _, _, rfl, s1 _ _ e1, F4.cl, F4.nG, lk_g gg c, ?_⟩
    refine ⟨_, rfl, m, C, dx, _, _, rfl, s1 _ _ e1, F4.cl, F4.nK, lk_c gg c, c, _, rfl, .inr (SqL.of (s1 _ _ e3)), _, rfl, by rw [List.length_append, la]; show rs.length + 1 ≤ _; omega, fun L H2 n2 eL s2 => ⟨rfl, rfl, ?_⟩⟩
    have s12 := s1.trans s2
    have eL' : H2 L = some (.lst ((as ++ [t]).map V.ref)) := by rw [eL, List.map_append]; rfl
    refine q_new (rs := rs ++ [r]) (.inl (SqL.of (s12 _ _ e2))) (.inl (SqL.of eL')) (rows_app (rows_same e4 s12) (.cons (s12 _ _ et) .nil)) fit.g ?_ (by simp; omega) fun x hs H5 nx ph fx mn s5 => ?_
    · intro z hz
      rcases List.mem_append.mp hz with hz | hz
      · exact fit.r z hz
      · rw [List.mem_singleton.mp hz]; exact gr
    · obtain rfl : hs = gs := fit_one fit fx ph
      exact q x H5 (s12.free nx) (s12.trans s5) (mn.back s12)
end
end KM

set_option Elab.async false
set_option linter.all false
set_option maxRecDepth 100000
set_option maxHeartbeats 4000000
namespace KM
open PySem PySem.Spec PyProof.Rows L2 GL
/-! five places in a ring, one condition from each to the next -/
abbrev four : List Str := ["a", "b", "c", "d"]
def plc : Nat → Pt
  | 0 => some "a"
  | 1 => some "b"
  | 2 => some "c"
  | 3 => some "d"
  | _ => none
def pst : Nat → Nat
  | 0 => 1
  | 1 => 3
  | 2 => 2
  | 3 => 0
  | _ => 4
def nx5 : Nat → Nat
  | 0 => 1
  | 1 => 2
  | 2 => 3
  | 3 => 4
  | _ => 0
def mst (m0 m1 m2 m3 bk : Int) : Nat → Int
  | 0 => m0
  | 1 => m1
  | 2 => m2
  | 3 => m3
  | _ => bk
abbrev rowsK (m0 m1 m2 m3 : Int) : List Row := [(some "d", none, m3), (some "a", some "b", m0), (some "c", some "d", m2), (some "b", some "c", m1)]
abbrev rowsW (m0 m1 m2 m3 bk : Int) : List Row := rowsK m0 m1 m2 m3 ++ [((none : Pt), (some "a" : Pt), bk)]
def pth : Nat → Nat → List Nat
  | _, 0 => []
  | t, n + 1 => pst t :: pth (nx5 t) n
def stq : Nat → Nat → Nat
  | t, 0 => t
  | t, n + 1 => stq (nx5 t) n
def smq (m0 m1 m2 m3 bk : Int) : Nat → Nat → Int
  | _, 0 => 0
  | t, n + 1 => mst m0 m1 m2 m3 bk t + smq m0 m1 m2 m3 bk (nx5 t) n
section
variable {m0 m1 m2 m3 bk : Int}
theorem row_one {i : Nat} {a b : Pt} {m : Int} (e : (rowsW m0 m1 m2 m3 bk)[i]? = some (a, b, m)) : ∃ t < 5, a = plc t ∧ i = pst t ∧ b = plc (nx5 t) ∧ m = mst m0 m1 m2 m3 bk t := by
  match i, e with
  | 0, e => cases e; exact ⟨3, by decide, rfl, rfl, rfl, rfl⟩
  | 1, e => cases e; exact ⟨0, by decide, rfl, rfl, rfl, rfl⟩
  | 2, e => cases e; exact ⟨2, by decide, rfl, rfl, rfl, rfl⟩
  | 3, e => cases e; exact ⟨1, by decide, rfl, rfl, rfl, rfl⟩
  | 4, e => cases e; exact ⟨4, by decide, rfl, rfl, rfl, rfl⟩
  | i + 5, e => exact absurd (show (none : Option Row) = some (a, b, m) from e) (by simp)
theorem nx_lt : ∀ t, nx5 t < 5
  | 0 => by decide
  | 1 => by decide
  | 2 => by decide
  | 3 => by decide
  | t + 4 => by show 0 < 5; decide
theorem plc_fin : ∀ t u : Fin 5, plc t.val = plc u.val → t = u := by decide +kernel
theorem plc_inj {t u : Nat} (ht : t < 5) (hu : u < 5) (h : plc t = plc u) : t = u := congrArg Fin.val (plc_fin ⟨t, ht⟩ ⟨u, hu⟩ h)
theorem pl_det {x y : Pt} {l : List Nat} {s : Int} (h : KN.PL (rowsW m0 m1 m2 m3 bk) x y l s) : ∀ t < 5, x = plc t → l = pth t l.length ∧ y = plc (stq t l.length) ∧ s = smq m0 m1 m2 m3 bk t l.length := by
  induction h with
  | nil => intro t _ e; exact ⟨rfl, e, rfl⟩
  | @cons a b c i m s l e _ ih =>
    intro t ht ea
    obtain ⟨u, hu, e1, e2, e3, e4⟩ := row_one e
    have : t = u := plc_inj ht hu (ea.symm.trans e1)
    subst this
    obtain ⟨h1, h2, h3⟩ := ih (nx5 t) (nx_lt t) e3
    refine ⟨?_, h2, ?_⟩
    · show i :: l = pst t :: pth (nx5 t) l.length
      rw [← h1, e2]
    · show m + s = mst m0 m1 m2 m3 bk t + smq m0 m1 m2 m3 bk (nx5 t) l.length
      rw [← h3, e4]
theorem pl_up {x y : Pt} {l : List Nat} {s : Int} (h : KN.PL (rowsK m0 m1 m2 m3) x y l s) : KN.PL (rowsW m0 m1 m2 m3 bk) x y l s := by
  induction h with
  | nil => exact .nil
  | @cons a b c i m s l e _ ih =>
    refine .cons ?_ ih
    have lt : i < (rowsK m0 m1 m2 m3).length := (List.getElem?_eq_some_iff.mp e).1
    rw [List.getElem?_append_left lt]
    exact e
theorem four_in : ∀ t < 5, ∀ n, 4 ∈ pth t (n + 5) := by
  intro t ht n
  match t, ht with
  | 0, _ => simp [pth, pst, nx5]
  | 1, _ => simp [pth, pst, nx5]
  | 2, _ => simp [pth, pst, nx5]
  | 3, _ => simp [pth, pst, nx5]
  | 4, _ => simp [pth, pst, nx5]
theorem pl_short {x y : Pt} {l : List Nat} {s : Int} (h : KN.PL (rowsK m0 m1 m2 m3) x y l s) {t : Nat} (ht : t < 5) (e : x = plc t) : l.length < 5 := by
  have h1 := (pl_det (pl_up (bk := 0) h) t ht e).1
  have lt := h.lt
  by_cases c : l.length < 5
  · exact c
  · obtain ⟨n, hn⟩ : ∃ n, l.length = n + 5 := ⟨l.length - 5, by omega⟩
    have := four_in t ht n
    rw [← hn, ← h1] at this
    exact absurd (lt 4 this) (by show ¬ 4 < 4; omega)
theorem pl_start {x y : Pt} {l : List Nat} {s : Int} (h : KN.PL (rowsW m0 m1 m2 m3 bk) x y l s) (n : l ≠ []) : ∃ t < 5, x = plc t := by
  cases h with
  | nil => exact absurd rfl n
  | cons e _ =>
    obtain ⟨t, ht, e1, _⟩ := row_one e
    exact ⟨t, ht, e1⟩
theorem stq_lt : ∀ n t, t < 5 → stq t n < 5
  | 0, t, h => h
  | n + 1, t, h => stq_lt n (nx5 t) (nx_lt t)
theorem pl_zero {C : List Row} {x y : Pt} {s : Int} (h : KN.PL C x y [] s) : s = 0 := by
  cases h
  rfl
/-- no ring along the four -/
theorem no_ringK : ¬ KN.Ring (rowsK m0 m1 m2 m3) := by
  rintro ⟨p, vs, s, w, neg⟩
  obtain ⟨l, h, _⟩ := KN.PL.of w
  by_cases z : l = []
  · subst z
    have := pl_zero h
    omega
  · have h' := pl_up (bk := 0) h
    obtain ⟨t, ht, e⟩ := pl_start h' z
    have l5 := pl_short h ht e
    obtain ⟨_, h2, _⟩ := pl_det h' t ht e
    have back := plc_inj ht (stq_lt _ t ht) (e.symm.trans h2)
    have pos : 0 < l.length := List.length_pos_iff.mpr z
    have f : ∀ t n : Fin 5, 0 < n.val → ¬ t.val = stq t.val n.val := by decide +kernel
    exact f ⟨t, ht⟩ ⟨l.length, l5⟩ pos back
theorem pl_k {t n : Nat} (ht : t < 5) (hn : ∀ k : Fin 5, stq t k.val = 4 → k.val = n) {l : List Nat} {s : Int} (h : KN.PL (rowsK m0 m1 m2 m3) (plc t) none l s) : l = pth t n ∧ s = smq m0 m1 m2 m3 0 t n := by
  have l5 := pl_short h ht rfl
  obtain ⟨h1, h2, h3⟩ := pl_det (pl_up (bk := 0) h) t ht rfl
  have e : stq t l.length = 4 := plc_inj (stq_lt _ t ht) (by decide) (h2.symm.trans rfl)
  have := hn ⟨l.length, l5⟩ e
  have this : l.length = n := this
  rw [this] at h1 h3
  exact ⟨h1, h3⟩
theorem way_a {l : List Nat} {s : Int} (h : KN.PL (rowsK m0 m1 m2 m3) (some "a") none l s) : l = [1, 3, 2, 0] ∧ s = m0 + (m1 + (m2 + (m3 + 0))) := pl_k (t := 0) (n := 4) (by decide) (by decide +kernel) h
theorem way_b {l : List Nat} {s : Int} (h : KN.PL (rowsK m0 m1 m2 m3) (some "b") none l s) : l = [3, 2, 0] := (pl_k (t := 1) (n := 3) (by decide) (by decide +kernel) h).1
theorem has_a : KN.PL (rowsK m0 m1 m2 m3) (some "a") none [1, 3, 2, 0] (m0 + (m1 + (m2 + (m3 + 0)))) := .cons rfl (.cons rfl (.cons rfl (.cons rfl .nil)))
theorem has_b : KN.PL (rowsK m0 m1 m2 m3) (some "b") none [3, 2, 0] (m1 + (m2 + (m3 + 0))) := .cons rfl (.cons rfl (.cons rfl .nil))
theorem has_d : KN.PL (rowsW m0 m1 m2 m3 bk) none (some "d") [4, 1, 3, 2] (bk + (m0 + (m1 + (m2 + 0)))) := .cons rfl (.cons rfl (.cons rfl (.cons rfl .nil)))
theorem has_dd : KN.PL (rowsW m0 m1 m2 m3 bk) (some "d") (some "d") [0, 4, 1, 3, 2] (m3 + (bk + (m0 + (m1 + (m2 + 0))))) := .cons rfl (.cons rfl (.cons rfl (.cons rfl (.cons rfl .nil))))
/-- five on: the same place, the whole sum more -/
theorem five_on {t n : Nat} (ht : t < 5) : stq t (n + 5) = stq t n ∧ smq m0 m1 m2 m3 bk t (n + 5) = (m0 + m1 + m2 + m3 + bk) + smq m0 m1 m2 m3 bk t n := by
  match t, ht with
  | 0, _ => exact ⟨rfl, by simp only [smq, mst, nx5]; omega⟩
  | 1, _ => exact ⟨rfl, by simp only [smq, mst, nx5]; omega⟩
  | 2, _ => exact ⟨rfl, by simp only [smq, mst, nx5]; omega⟩
  | 3, _ => exact ⟨rfl, by simp only [smq, mst, nx5]; omega⟩
  | 4, _ => exact ⟨rfl, by simp only [smq, mst, nx5]; omega⟩
theorem closed_sum (T : m0 + m1 + m2 + m3 + bk = 0) {t : Nat} (ht : t < 5) : ∀ n, stq t n = t → smq m0 m1 m2 m3 bk t n = 0
  | 0, _ => rfl
  | n + 5, h => by
    obtain ⟨h1, h2⟩ := five_on (m0 := m0) (m1 := m1) (m2 := m2) (m3 := m3) (bk := bk) (n := n) ht
    rw [h2, T, closed_sum T ht n (h1.symm.trans h)]
    rfl
  | 1, h => by
    have f : ∀ t : Fin 5, ¬ stq t.val 1 = t.val := by decide +kernel
    exact absurd h (f ⟨t, ht⟩)
  | 2, h => by
    have f : ∀ t : Fin 5, ¬ stq t.val 2 = t.val := by decide +kernel
    exact absurd h (f ⟨t, ht⟩)
  | 3, h => by
    have f : ∀ t : Fin 5, ¬ stq t.val 3 = t.val := by decide +kernel
    exact absurd h (f ⟨t, ht⟩)
  | 4, h => by
    have f : ∀ t : Fin 5, ¬ stq t.val 4 = t.val := by decide +kernel
    exact absurd h (f ⟨t, ht⟩)
/-- where the whole sum is 0 there is no ring -/
theorem no_ringW (T : m0 + m1 + m2 + m3 + bk = 0) : ¬ KN.Ring (rowsW m0 m1 m2 m3 bk) := by
  rintro ⟨p, vs, s, w, neg⟩
  obtain ⟨l, h, _⟩ := KN.PL.of w
  by_cases z : l = []
  · subst z
    have := pl_zero h
    omega
  · obtain ⟨t, ht, e⟩ := pl_start h z
    obtain ⟨_, h2, h3⟩ := pl_det h t ht e
    have back := plc_inj ht (stq_lt _ t ht) (e.symm.trans h2)
    have := closed_sum T ht _ back.symm
    omega
theorem way_d {l : List Nat} {s : Int} (h : KN.PL (rowsW m0 m1 m2 m3 bk) none (some "d") l s) (l5 : l.length ≤ 5) : l = [4, 1, 3, 2] := by
  obtain ⟨h1, h2, _⟩ := pl_det h 4 (by decide) rfl
  have e : stq 4 l.length = 3 := plc_inj (stq_lt _ 4 (by decide)) (by decide) (h2.symm.trans rfl)
  have f : ∀ k : Fin 6, stq 4 k.val = 3 → k.val = 4 := by decide +kernel
  have := f ⟨l.length, by omega⟩ e
  have this : l.length = 4 := this
  rw [this] at h1
  exact h1
/-- where the whole sum is below 0 the first ring is the one that begins at position 0 -/
theorem ringW (T : m0 + m1 + m2 + m3 + bk < 0) {l : List Nat} (h : KN.RingL (rowsW m0 m1 m2 m3 bk) (some l)) (l5 : l.length ≤ 5) : l = [0, 4, 1, 3, 2] := by
  obtain ⟨⟨a, s, w, neg⟩, _, least⟩ := h
  have z : l ≠ [] := fun z => by
    subst z
    have := pl_zero w
    omega
  obtain ⟨t, ht, e⟩ := pl_start w z
  obtain ⟨h1, h2, _⟩ := pl_det w t ht e
  have back := plc_inj ht (stq_lt _ t ht) (e.symm.trans h2)
  have pos : 0 < l.length := List.length_pos_iff.mpr z
  have f : ∀ t : Fin 5, ∀ k : Fin 6, 0 < k.val → t.val = stq t.val k.val → k.val = 5 := by decide +kernel
  have n5 : l.length = 5 := f ⟨t, ht⟩ ⟨l.length, by omega⟩ pos back
  have le := least _ _ _ has_dd (by omega) (by rw [n5]; rfl)
  rw [n5] at h1
  rw [h1] at le ⊢
  have g : ∀ t : Fin 5, KN.lx [0, 4, 1, 3, 2] (pth t.val 5) = false → pth t.val 5 = [0, 4, 1, 3, 2] := by decide +kernel
  exact g ⟨t, ht⟩ le
theorem isRingW (T : m0 + m1 + m2 + m3 + bk < 0) : KN.Ring (rowsW m0 m1 m2 m3 bk) := by
  obtain ⟨vs, w, _⟩ := KN.PL.way (has_dd (m0 := m0) (m1 := m1) (m2 := m2) (m3 := m3) (bk := bk))
  exact ⟨_, vs, _, w, by omega⟩
end
end KM

set_option Elab.async false
set_option linter.all false
set_option maxRecDepth 100000
set_option maxHeartbeats 4000000
namespace GL
open PySem PySem.Spec PyProof.Rows L2
section
variable {X : Cx} {k : Nat} {x : Str} {sp : Sp} {p pos : Pos}
/-- f() of a def without parameters -/
theorem pe_has0 (h : Has X.prog X.w X.K X.mg X.base x k [] sp) (g : Clr X.A) (hr : Room k X.A) (hg : Gl X x)
    (hdb : (x == ("__debug__" : Str)) = false := by decide)
    (hpl : ((backTo pos (starEach [] X.env)).any (·.1) || (backToKw pos (keywordEach [] X.env)).any (·.1.isNone)) = false := by rfl) :
    PE X (.Call (.Name x p) [] [] pos) (fun _ H Q => sp [] H Q E0) := by
  obtain ⟨f, fd, a, b, c, d⟩ := h.ex
  refine ⟨fun pins s σ H Q I h => ?_⟩
  refine wpAny_Call_Name_kw (ld_glob I hg a ?_ hdb)
  refine PySem.W.callWith_KW0 (h₀ := X.base) I.ok.mod.kin b (kws := []) rfl ?_ hpl
  refine thn (pk_nil.run pos pins s σ H (fun zs H3 => zs = [] ∧ H3 = H) I ⟨rfl, rfl⟩) ?_
  rintro ws s3 ⟨zs, H3, I3, rz, rfl, rfl⟩
  exact ⟨I3.kIn, run_at (us := []) (vs := []) (n := 0) (ks := []) g hr rfl c d pass0 I3 .nil rz rfl rfl h⟩
end
end GL

set_option Elab.async false
set_option linter.all false
set_option maxRecDepth 100000
set_option maxHeartbeats 4000000
namespace KM
open PySem PySem.Spec PyProof.Rows L2 GL
/-! a known chain and a known ring, by the law -/
abbrev sKr : Stmt := top 74
abbrev nKr : List Str := ["_law_pot_here", "_law_goods", "_law_by", "_law_mosts", "_law_points", "_law_order", "_law_rows", "_law_moves", "_law_way", "_law_back", "_law_whole", "_law_due", "_law_turn", "_law_at"]
theorem scKr : FnScope nKr ["_law_pot_here"] (defScope sKr) := ⟨rfl, rfl, rfl, by decide +kernel, rfl, by decide +kernel, by decide +kernel⟩
def spKr : Sp := fun vs H Q _ => ∃ p : Addr, vs = [.ref p] ∧ PotAt H p ∧ ∀ H', But p H H' → Q (.bl true) H'
/-- the way, turned -/
def rot5 (i : Nat) : List Int := [1, 3, 2, 0, 4].drop i ++ [1, 3, 2, 0, 4].take i
abbrev ptV : List V := [.str "a", .str "b", .str "c", .str "d", .non]
section
variable {P : Program} {w : World} {K : PySem.W.Frag} {mg : Str → Option Value} {base : Heap} {C R : Addr}
theorem ok_knownright {f : Addr} {fd : FuncData} (F : Fun K "_law_known_right" "_law_known_right" sKr f fd) (T : Bi mg) (M : Mv P w K mg base C) (MP : MvP P w K mg base C)
    (D : Has P w K mg base "_law_draw" 1 ["_law_pot_here", "_law_many"] spDraw) (PK : Has P w K mg base "_law_pick" 2 ["_law_pot_here", "_law_some"] (spPick K))
    (CH : Has P w K mg base "chain" 6 ["moves", "first", "second"] (spChn C)) (TG : Has P w K mg base "tightest" 6 ["moves", "first", "second"] (spTgt C)) (RG : Has P w K mg base "ring" 5 ["moves"] (spRng C))
    (SM : Has P w K mg base "some_move" 5 ["moves"] (spSmv C)) (IR : Has P w K mg base "is_ring" 3 ["moves", "value"] (spIr C)) (NR : Has P w K mg base "_law_near_right" 8 [] spNr) :
    FnG P w K mg base CX0 9 f fd ["_law_pot_here"] spKr := by
  refine okG F scKr (fun vs H Q E h => ?_) (fun cdv A out s H vs Q E g hr h => ?_)
  · obtain ⟨p, rfl, _⟩ := h
    rfl
  · obtain ⟨p, rfl, pot, q⟩ := h
    have hr8 : Room 8 _ := hr
    have hr7 : Room 7 _ := hr.mono (by decide)
    have hr6 : Room 6 _ := hr.mono (by decide)
    have hr5 : Room 5 _ := hr.mono (by decide)
    have hr3 : Room 3 _ := hr.mono (by decide)
    have hr2 : Room 2 _ := hr.mono (by decide)
    have hr1 : Room 1 _ := hr.mono (by decide)
    have hu := hr.units
    have szl := sizeLine_eq
    refine ⟨_, (pss_cons (ps_asg (pe_tupL (pa_cons (pe_lstL (pa_cons pe_str (pa_cons pe_str (pa_cons pe_str (pa_cons pe_str pa_nil))))) (pa_cons (pe_has PK g hr2 (by rfl) (pa_cons (pv 0) (pa_cons (pe_lstL (pa_cons pe_int (pa_cons (pe_op op_pow pe_int pe_int) (pa_cons (pe_op op_pow pe_int pe_int) pa_nil)))) pa_nil))) pa_nil))) (pg_tup rfl (pgs_cons (pg_name (i := 1) scKr.nd rfl (.inl rfl)) (pgs_cons (pg_name (i := 2) scKr.nd rfl (.inr rfl)) pgs_nil))))
      (pss_cons (ps_set (i := 3) scKr.nd rfl (.inr rfl) (pe_lc (own := [("_law_turn", 12)]) (g := gName 12) (tt := tYes) (te := tOp (rI CMul fun i j => V.int (i * j)) (tOp (rI0 fun i j => V.int (i - j)) ((tGo (["_law_pot_here", "_law_many"] : List Str).length 0 (spDraw) (fun vs _ => vs) E0 (tCons (tVar 0) (tCons (tC (.int 7)) tNil)) tNil)) (tC (.int 3))) (tVar 2)) (by rfl) scKr.nd (pi_range1 (by rfl) T.range (pa_cons pe_int pa_nil)) (blkOk_by (own := [("_law_turn", 12)]) (N := nKr) (sc := defScope sKr) (by decide +kernel)) (fun _ _ _ _ _ => by exact (pg_name (i := 12) scKr.nd rfl (.inl rfl))) (fun _ _ _ _ _ => pts_nil) (fun _ _ _ _ _ => by exact (pe_op op_mul (pe_op op_sub (pe_has D g hr1 (by rfl) (pa_cons (pv 0) (pa_cons pe_int pa_nil))) pe_int) (pv 2)))))
      (pss_cons (ps_asg (pe_tupL (pa_cons (pe_op op_catL (pv 1) (pe_lstL (pa_cons pe_non pa_nil))) (pa_cons (pe_lstL (pa_cons pe_int (pa_cons pe_int (pa_cons pe_int (pa_cons pe_int pa_nil))))) pa_nil))) (pg_tup rfl (pgs_cons (pg_name (i := 4) scKr.nd rfl (.inr rfl)) (pgs_cons (pg_name (i := 5) scKr.nd rfl (.inl rfl)) pgs_nil))))
      (pss_cons (ps_setLc (i := 6) (own := [("_law_at", 13)]) (g := gName 13) (tt := tYes) (te := tTupL (tCons (tOp (rIxL K) (tVar 4) (tVar 13)) (tCons (tOp (rIxL K) (tVar 4) (tOp (rI0 fun i j => V.int (i + j)) (tVar 13) (tC (.int 1)))) (tCons (tOp (rIxL K) (tVar 3) (tVar 13)) tNil)))) rfl scKr.nd rfl rfl (sw_true rfl rfl rfl (by decide +kernel)) (pi_list (pv 5)) (blkOk_by (own := [("_law_at", 13)]) (N := nKr) (sc := defScope sKr) (by decide +kernel)) (fun _ _ _ _ _ => by exact (pg_name (i := 13) scKr.nd rfl (.inl rfl))) (fun _ _ _ _ _ => pts_nil) (fun _ _ _ _ _ => by exact (pe_tupL (pa_cons (pe_ix ix_list (pv 4) (pv 13) (fun _ _ => rfl)) (pa_cons (pe_ix ix_list (pv 4) (pe_op op_add (pv 13) pe_int) (fun _ _ => rfl)) (pa_cons (pe_ix ix_list (pv 3) (pv 13) (fun _ _ => rfl)) pa_nil))))))
      (pss_cons (ps_asg (pe_tupL (pa_cons (pe_hasC M.mk2 g hr7 (by rfl) M.gM (pa_cons (pv 1) (pa_cons (pv 6) pa_nil)) pk_nil) (pa_cons (pe_lstL (pa_cons pe_int (pa_cons pe_int (pa_cons pe_int (pa_cons pe_int pa_nil))))) pa_nil))) (pg_tup rfl (pgs_cons (pg_name (i := 7) scKr.nd rfl (.inl rfl)) (pgs_cons (pg_name (i := 8) scKr.nd rfl (.inr rfl)) pgs_nil))))
      (pss_cons (ps_if (PW.pt (pw_or (pt_cmpR (op_neD hu) (pe_has CH g hr6 (by rfl) (pa_cons (pv 7) (pa_cons pe_str (pa_cons pe_non pa_nil)))) (pv 8) (nomark _)) (pw_or (pt_cmpR op_ne (pe_has TG g hr6 (by rfl) (pa_cons (pv 7) (pa_cons pe_str (pa_cons pe_non pa_nil)))) (pe_callB (cr_sum (by rfl)) (by rfl) T.sum (by decide +kernel) (pa_cons (pv 3) pa_nil)) (nomark _)) (pw_or1 (pt_cmpR (op_neD hu) (pe_has CH g hr6 (by rfl) (pa_cons (pv 7) (pa_cons pe_str (pa_cons pe_non pa_nil)))) (pe_slice slcL (pv 8) (po_some pe_int) po_none) (nomark _)))))) (pss_one (ps_ret pe_bl)) pss_nil)
      (pss_cons (ps_set (i := 9) scKr.nd rfl (.inl rfl) (pe_op op_sub (pe_op op_sub pe_int (pe_callB (cr_sum (by rfl)) (by rfl) T.sum (by decide +kernel) (pa_cons (pv 3) pa_nil))) (pe_has D g hr1 (by rfl) (pa_cons (pv 0) (pa_cons pe_int pa_nil)))))
      (pss_cons (ps_set (i := 10) scKr.nd rfl (.inl rfl) (pe_op (or_add MP.add MP.addc g hr8 addm_ref) (pv 7) (pe_tupL (pa_cons pe_non (pa_cons pe_str (pa_cons (pv 9) pa_nil))))))
      (pss_cons (ps_if (pt_cmpR op_eq (pe_op op_add (pv 9) (pe_callB (cr_sum (by rfl)) (by rfl) T.sum (by decide +kernel) (pa_cons (pv 3) pa_nil))) pe_int (nomark _)) (pss_one (ps_ret (pe_and (pe_cmpR op_isN (pe_has RG g hr5 (by rfl) (pa_cons (pv 10) pa_nil)) pe_non (nomark _)) (pe_one (pe_cmpR (op_eqD hu) (pe_has CH g hr6 (by rfl) (pa_cons (pv 10) (pa_cons pe_non (pa_cons pe_str pa_nil)))) (pe_lstL (pa_cons pe_int (pa_cons pe_int (pa_cons pe_int (pa_cons pe_int pa_nil))))) (nomark _)))))) pss_nil)
      (pss_cons (ps_set (i := 11) scKr.nd rfl (.inl rfl) (pe_ix ix_list (pe_callB (cr_sortRows hu) (by rfl) T.sorted (by decide +kernel) (pa_cons (pe_lc (own := [("_law_at", 13)]) (g := gName 13) (tt := tYes) (te := tOp rCatL (tSl (rSlcL K) (tOp rCatL (tVar 8) (tLstL (tCons (tC (.int 4)) tNil))) (tPart (tVar 13)) tNoPart) (tSl (rSlcL K) (tOp rCatL (tVar 8) (tLstL (tCons (tC (.int 4)) tNil))) tNoPart (tPart (tVar 13)))) (by rfl) scKr.nd (pi_range1 (by rfl) T.range (pa_cons pe_int pa_nil)) (blkOk_by (own := [("_law_at", 13)]) (N := nKr) (sc := defScope sKr) (by decide +kernel)) (fun _ _ _ _ _ => by exact (pg_name (i := 13) scKr.nd rfl (.inl rfl))) (fun _ _ _ _ _ => pts_nil) (fun _ _ _ _ _ => by exact (pe_op op_catL (pe_slice slcL (pe_op op_catL (pv 8) (pe_lstL (pa_cons pe_int pa_nil))) (po_some (pv 13)) po_none) (pe_slice slcL (pe_op op_catL (pv 8) (pe_lstL (pa_cons pe_int pa_nil))) po_none (po_some (pv 13)))))) pa_nil)) pe_int (fun _ _ => rfl)))
      (pss_cons (ps_if (PW.pt (pw_or (pt_cmpR (op_neD hu) (pe_has RG g hr5 (by rfl) (pa_cons (pv 10) pa_nil)) (pv 11) (nomark _)) (pw_or (pt_cmpR op_notN (pe_has SM g hr5 (by rfl) (pa_cons (pv 10) pa_nil)) pe_non (nomark _)) (pw_or1 (pt_cmpR op_notBl (pe_has IR g hr3 (by rfl) (pa_cons (pv 10) (pa_cons (pe_op op_catL (pv 8) (pe_lstL (pa_cons pe_int pa_nil))) pa_nil))) pe_bl (nomark _)))))) (pss_one (ps_ret pe_bl)) pss_nil)
      (pss_one (ps_ret (pe_has0 NR g hr8 (by rfl))))))))))))))), ?_⟩
    obtain ⟨Bz, hB⟩ : ∃ Bz : Nat, 10000000000000000000000000000 = Bz := ⟨_, rfl⟩
    have B1 : (1 : Int).natAbs ≤ Bz := by rw [← hB]; decide +kernel
    have B9 : ((10 : Int) ^ (9 : Int).toNat).natAbs ≤ Bz := by rw [← hB]; decide +kernel
    have B28 : ((10 : Int) ^ (28 : Int).toNat).natAbs ≤ Bz := by rw [← hB]; decide +kernel
    have B100 : 100 * Bz ≤ 1000000000000000000000000000000 := by rw [← hB]; decide +kernel
    have B0 : 1 ≤ Bz := by rw [← hB]; decide +kernel
    clear hB
    obtain ⟨pA, pB, ep, _⟩ := id pot
    -- goods, by
    refine ⟨by show 4 ≤ sizeLine; omega, fun G H1 nG eG s1 => ?_⟩
    refine ⟨_, rfl, _, _, rfl, rfl, ⟨by decide, by decide, by decide⟩, _, _, rfl, rfl, ⟨by decide, by decide, by decide⟩, by show 3 ≤ sizeLine; omega, fun Y H2 nY eY s2 => ⟨rfl, rfl, ?_⟩⟩
    have pot2 := pot_same pot (s1.trans s2)
    have nYp : Y ≠ p := ne_some nY (s1 _ _ ep)
    have nGp : G ≠ p := ne_some nG ep
    refine ⟨p, Y, _, rfl, pot2, SqL.of eY, nYp, by show 0 < 3; omega, by show 3 < 1048576; omega, fun i x H3 hx pot3 b3 => ?_⟩
    obtain ⟨by', rfl, hby⟩ : ∃ y : Int, x = .int y ∧ y.natAbs ≤ Bz := by
      match i, hx with
      | 0, hx => cases hx; exact ⟨_, rfl, B1⟩
      | 1, hx => cases hx; exact ⟨_, rfl, B9⟩
      | 2, hx => cases hx; exact ⟨_, rfl, B28⟩
    clear B1 B9 B28
    refine ⟨by show 2 ≤ sizeLine; omega, fun t1 H4 nt1 et1 s4 => ?_⟩
    refine ⟨t1, _, rfl, SqT.of et1, rfl, _, _, rfl, _, _, rfl, rfl, ?_⟩
    have eG4 := s4 _ _ (b3 _ _ nGp (s2 _ _ eG))
    have pot4 := pot_same pot3 s4
    have b04 : But p H H4 := (But.of (s1.trans s2)).trans (b3.trans (But.of s4))
    obtain ⟨pA4, pB4, ep4, _⟩ := id pot4
    -- mosts
    refine ⟨4, rfl, by decide, by decide, fun U nU => ?_⟩
    have nUp : U ≠ p := ne_some nU ep4
    refine lc_it (walk_range (lo := 0) (n := (4 : Int).toNat)) (fun i H' => But p H4 H' ∧ PotAt H' p ∧ ∃ ms : List Int, H' U = some (.lst (ms.map V.int)) ∧ (∀ m ∈ ms, m.natAbs ≤ 3 * Bz) ∧ ms.length = i) ⟨But.of (same_new (Same.refl' _) nU), pot_same pot4 (same_new (Same.refl' _) nU), [], upd_same, (fun a ha => absurd ha List.not_mem_nil), rfl⟩ (fun _ _ _ _ => True.intro) ?_ ?_
    · rintro j x H5 H6 hj ⟨b5, pot5, ms, e5, lt5, len5⟩ ⟨rfl, rfl⟩
      have hj4 : j < 4 := hj
      refine ⟨rfl, yes_go ?_⟩
      refine ⟨_, rfl, rfl, rfl, p, 7, rfl, pot5, by decide, by decide, fun d H7 d0 d1 pot7 b7 => ?_⟩
      have e7 := b7 _ _ nUp e5
      refine ⟨_, _, rfl, rfl, _, rfl, _, _, rfl, rfl, .inl ⟨by omega, by omega⟩, ?_⟩
      refine ⟨_, e7, by rw [List.length_map]; exact small1000 (by omega), but_upd (b5.trans b7) nU, pot_off pot7 nUp.symm But.refl.upd, ms ++ [(d - 3) * by'], by rw [upd_same, List.map_append]; rfl, ?_, by simp; omega⟩
      intro z hz
      rcases List.mem_append.mp hz with hz | hz
      · exact lt5 z hz
      · rw [List.mem_singleton.mp hz, Int.natAbs_mul]
        exact Nat.mul_le_mul (by omega) hby
    rintro H5 ⟨b5, pot5, ms, e5, lt5, len5⟩
    obtain ⟨m0, m1, m2, m3, rfl⟩ : ∃ m0 m1 m2 m3, ms = [m0, m1, m2, m3] := by
      have l4 : ms.length = 4 := len5
      match ms, l4 with
      | [a, b, c, d], _ => exact ⟨a, b, c, d, rfl⟩
    have l0 := lt5 m0 (by simp)
    have l1 := lt5 m1 (by simp)
    have l2 := lt5 m2 (by simp)
    have l3 := lt5 m3 (by simp)
    clear lt5 len5 hby
    have eG5 := b5 _ _ nGp eG4
    -- points, order
    refine ⟨_, rfl, by show 1 ≤ sizeLine; omega, fun n1 H6 nn1 en1 s6 => ?_⟩
    refine ⟨G, n1, _, _, rfl, rfl, s6 _ _ eG5, en1, by show 4 + 1 ≤ sizeLine; omega, fun Pp H7 n7 eP s7 => ?_⟩
    refine ⟨by show 4 ≤ sizeLine; omega, fun O H8 n8 eO s8 => ⟨by show 2 ≤ sizeLine; omega, fun t2 H9 nt2 et2 s9 => ?_⟩⟩
    refine ⟨t2, _, rfl, SqT.of et2, rfl, _, _, rfl, _, _, rfl, rfl, ?_⟩
    have S59 := ((s6.trans s7).trans s8).trans s9
    have eP9 := (s8.trans s9) _ _ eP
    have eO9 := s9 _ _ eO
    have eU9 := S59 _ _ e5
    -- rows
    refine ⟨_, rfl, O, rfl, ⟨_, SqL.of eO9⟩, fun V1 nV => ?_⟩
    refine lc_it (walk_list (K := K) (a := O) (xs := [.int 3, .int 0, .int 2, .int 1])) (fun i H' => Same H9 H' ∧ ∃ as : List Addr, H' V1 = some (.lst (as.map V.ref)) ∧ RowsIn H' as ((rowsK m0 m1 m2 m3).take i)) ⟨same_new (Same.refl' _) nV, [], upd_same, .nil⟩ (fun i H' _ ⟨z, _⟩ => SqL.of (z _ _ eO9)) ?_ ?_
    · rintro j x J1 J2 hj ⟨sj, as, ej, rj⟩ ⟨rfl, hx⟩
      obtain ⟨k, r, rfl, hrow, k0, k1, k2⟩ : ∃ (k : Nat) (r : Row), x = .int k ∧ (rowsK m0 m1 m2 m3)[j]? = some r ∧ ptV[k]? = some (oV r.1) ∧ ptV[k + 1]? = some (oV r.2.1) ∧ ([m0, m1, m2, m3].map V.int)[k]? = some (.int r.2.2) := by
        match j, hx with
        | 0, hx => cases hx; exact ⟨3, _, rfl, rfl, rfl, rfl, rfl⟩
        | 1, hx => cases hx; exact ⟨0, _, rfl, rfl, rfl, rfl, rfl⟩
        | 2, hx => cases hx; exact ⟨2, _, rfl, rfl, rfl, rfl, rfl⟩
        | 3, hx => cases hx; exact ⟨1, _, rfl, rfl, rfl, rfl, rfl⟩
      have lj := Paired.length rj
      rw [List.length_take] at lj
      have j4 : j < 4 := hj
      refine ⟨rfl, yes_go ?_⟩
      refine ⟨_, rfl, _, rfl, Pp, ptV, (k : Int), oV r.1, rfl, rfl, SqL.of (sj _ _ eP9), atI_nat k0, _, rfl, _, rfl, _, _, rfl, rfl, Pp, ptV, ((k + 1 : Nat) : Int), oV r.2.1, rfl, rfl, SqL.of (sj _ _ eP9), atI_nat k1, _, rfl, _, rfl, U, _, (k : Int), .int r.2.2, rfl, rfl, SqL.of (sj _ _ eU9), atI_nat k2, by show 3 ≤ sizeLine; omega, fun t J3 nt et st => ?_⟩
      have ntV : t ≠ V1 := fun z => by
        subst z
        rw [ej] at nt
        cases nt
      refine ⟨_, st _ _ ej, small1000 (by rw [List.length_map, lj]; omega), same_but (sj.trans st) But.refl.upd nV, as ++ [t], by rw [upd_same, List.map_append]; rfl, ?_⟩
      rw [take_more hrow]
      refine snocP (rows_but (rows_same rj st) But.refl.upd (st _ _ ej)) ?_
      show upd _ _ _ t = _
      rw [upd_ne ntV]
      exact et
    rintro H10 ⟨s10, as, e10, rows10⟩
    have rows10 : RowsIn H10 as (rowsK m0 m1 m2 m3) := rows10
    -- moves, way
    have GG : GoodGs four := menu_good _ (by decide +kernel)
    have good : GoodRows four (rowsK m0 m1 m2 m3) := by
      intro r hr
      have a : ∀ x y : Str, x ∈ four → y ∈ four → x ≠ y → ∀ m : Int, m.natAbs ≤ 3 * Bz → GoodRow four (some x, some y, m) := fun x y hx hy n m hm => ⟨fun z => n (Option.some.inj z), fun u hu => by rw [← Option.some.inj hu]; exact hx, fun u hu => by rw [← Option.some.inj hu]; exact hy, by show m.natAbs ≤ _; omega⟩
      rcases List.mem_cons.mp hr with rfl | hr
      · exact ⟨by simp, fun u hu => by rw [← Option.some.inj hu]; decide +kernel, fun u hu => (by cases (show (none : Option Str) = some u from hu)), by show m3.natAbs ≤ _; omega⟩
      · rcases List.mem_cons.mp hr with rfl | hr
        · exact a _ _ (by decide +kernel) (by decide +kernel) (by decide +kernel) _ l0
        · rcases List.mem_cons.mp hr with rfl | hr
          · exact a _ _ (by decide +kernel) (by decide +kernel) (by decide +kernel) _ l2
          · obtain rfl := List.mem_singleton.mp hr
            exact a _ _ (by decide +kernel) (by decide +kernel) (by decide +kernel) _ l1
    have S510 := S59.trans s10
    refine ⟨_, rfl, _, rfl, rfl, rfl, ?_⟩
    refine q_new (K := K) (gs := four) (rs := rowsK m0 m1 m2 m3) (as := as) (.inl (SqL.of (S510 _ _ eG5))) (.inl (SqL.of e10)) rows10 GG good (by show 4 ≤ 24; omega) fun m hs H11 nm pm fm mx s11 => ?_
    have ehs : hs = four := sorted_one pm fm.s (by decide +kernel)
    subst ehs
    have mxa := mx.at
    refine ⟨by show 4 ≤ sizeLine; omega, fun Wy H12 n12 eW s12 => ⟨by show 2 ≤ sizeLine; omega, fun t3 H13 nt3 et3 s13 => ?_⟩⟩
    refine ⟨t3, _, rfl, SqT.of et3, rfl, _, _, rfl, _, _, rfl, rfl, ?_⟩
    have m13 := mxa.same (s12.trans s13)
    have eW13 := s13 _ _ eW
    have inA : (some "a" : Pt) ∈ pts four := by decide +kernel
    have inB : (some "b" : Pt) ∈ pts four := by decide +kernel
    have inD : (some "d" : Pt) ∈ pts four := by decide +kernel
    have inN : (none : Pt) ∈ pts four := by decide +kernel
    have nK := no_ringK (m0 := m0) (m1 := m1) (m2 := m2) (m3 := m3)
    obtain ⟨va, wa, _⟩ := (has_a (m0 := m0) (m1 := m1) (m2 := m2) (m3 := m3)).way
    obtain ⟨vb, wb, _⟩ := (has_b (m0 := m0) (m1 := m1) (m2 := m2) (m3 := m3)).way
    -- the chain from a
    refine ⟨_, rfl, rfl, rfl, m, four, rowsK m0 m1 m2 m3, some "a", none, rfl, m13, fm, inA, inN, by simp, nK, fun H' z0 s => (z0 _ _ wa).elim, fun L H14 l t lt cl l5 nL eL s14 => ?_⟩
    obtain ⟨t', et', pl, _⟩ := cl
    obtain ⟨rfl, _⟩ := way_a pl
    refine ⟨_, rfl, natsD [1, 3, 2, 0], natsD [1, 3, 2, 0], dp_nats (SqL.of eL), dp_nats (l := [1, 3, 2, 0]) (SqL.of (s14 _ _ eW13)), shaped_nats _, shaped_nats _, _, rfl, ?_⟩
    rw [eqv_nats, decide_eq_true rfl]
    refine iteF ?_
    -- the tightest bound
    have m14 := m13.same s14
    refine ⟨_, rfl, rfl, rfl, m, four, rowsK m0 m1 m2 m3, some "a", none, rfl, m14, fm, inA, inN, by simp, nK, fun x H15 lx s15 => ?_⟩
    obtain ⟨rfl⟩ : x = some (m0 + (m1 + (m2 + (m3 + 0)))) := by
      cases x with
      | none => exact (lx _ _ wa).elim
      | some t =>
        obtain ⟨⟨vs, ww⟩, _⟩ := lx
        obtain ⟨l, pl, _⟩ := KN.PL.of ww
        rw [(way_a pl).2]
    have s515 := ((((S510.trans s11).trans s12).trans s13).trans s14).trans s15
    have eU15 := s515 _ _ e5
    refine ⟨_, rfl, U, [m0, m1, m2, m3], rfl, SqL.of eU15, rfl, _, rfl, ?_⟩
    rw [decide_eq_true (show oI (some (m0 + (m1 + (m2 + (m3 + 0))))) = V.int ([m0, m1, m2, m3].sum) from rfl)]
    refine iteF ?_
    -- the chain from b
    have m15 := m14.same s15
    refine ⟨_, rfl, rfl, rfl, m, four, rowsK m0 m1 m2 m3, some "b", none, rfl, m15, fm, inB, inN, by simp, nK, fun H' z0 s => (z0 _ _ wb).elim, fun L H16 l t lt cl l5 nL eL s16 => ?_⟩
    obtain ⟨t', et', pl, _⟩ := cl
    obtain rfl := way_b pl
    have eW16 := ((s14.trans s15).trans s16) _ _ eW13
    refine ⟨_, rfl, 1, rfl, Wy, _, rfl, SqL.of eW16, fun L7 H17 n17 e17 s17 => ?_⟩
    rw [cut1] at e17
    refine ⟨natsD [3, 2, 0], natsD [3, 2, 0], dp_nats (SqL.of (s17 _ _ eL)), dp_nats (l := [3, 2, 0]) (SqL.of e17), shaped_nats _, shaped_nats _, _, rfl, ?_⟩
    rw [eqv_nats, decide_eq_true rfl]
    refine iteF ?_
    have s1517 := s16.trans s17
    have eU17 := s1517 _ _ eU15
    have m17 := m15.same s1517
    have eW17 := s17 _ _ eW16
    have pot17 : PotAt H17 p := pot_same pot5 (s515.trans s1517)
    -- the way back
    refine ⟨_, rfl, U, [m0, m1, m2, m3], rfl, SqL.of eU17, _, _, rfl, rfl, ?_⟩
    refine ⟨_, rfl, rfl, rfl, p, 2, rfl, pot17, by decide, by decide, fun d H18 d0 d1 pot18 b18 => ?_⟩
    refine ⟨_, _, rfl, rfl, ?_⟩
    obtain ⟨bk, hbk⟩ : ∃ bk : Int, 0 - [m0, m1, m2, m3].sum - d = bk := ⟨_, rfl⟩
    have hsum : [m0, m1, m2, m3].sum = m0 + (m1 + (m2 + (m3 + 0))) := rfl
    have T : m0 + m1 + m2 + m3 + bk = 0 - d := by rw [← hbk, hsum]; omega
    rw [show (fun i j : Int => V.int (i - j)) (0 - [m0, m1, m2, m3].sum) d = V.int bk from congrArg V.int hbk]
    have lb : bk.natAbs ≤ 1000000000000000000000000000000 := by rw [← hbk, hsum]; omega
    clear hbk
    have m18 := m17.but pot17 b18
    obtain ⟨dx, fs, em18, _⟩ := m18.ins
    have nUp18 := nUp
    have eU18 := b18 _ _ nUp eU17
    have nWp : Wy ≠ p := ne_some n12 (pot_same pot5 (S510.trans s11)).choose_spec.choose_spec.1
    have eW18 := b18 _ _ nWp eW17
    -- the whole
    refine ⟨_, rfl, _, rfl, by show 3 ≤ sizeLine; omega, fun t4 H19 nt4 et4 s19 => ?_⟩
    refine ⟨m, dx, fs, t4, _, rfl, rfl, s19 _ _ em18, SqT.of et4, ?_⟩
    have gN : GoodRow four (none, some "a", bk) := ⟨by simp, fun u hu => (by cases (show (none : Option Str) = some u from hu)), fun u hu => by rw [← Option.some.inj hu]; decide +kernel, lb⟩
    refine ⟨m, t4, four, rowsK m0 m1 m2 m3, (none, some "a", bk), rfl, m18.same s19, fm, et4, gN, by show 4 < 24; omega, fun W H20 nW s20 mn => ?_⟩
    have mW := mn.at
    have fW : Fit four (rowsW m0 m1 m2 m3 bk) := ⟨fm.g, fm.s, fun r hr => (List.mem_append.mp hr).elim (fun z => fm.r r z) fun z => by rw [List.mem_singleton.mp z]; exact gN, by show 5 ≤ 24; omega⟩
    have S18 := s19.trans s20
    have eU20 := S18 _ _ eU18
    have b020 : But p H H20 := ((b04.trans b5).trans (But.of (s515.trans s1517))).trans (b18.trans (But.of S18))
    have pot20 := pot_same pot18 S18
    refine ⟨_, rfl, _, rfl, U, [m0, m1, m2, m3], rfl, SqL.of eU20, _, _, rfl, rfl, rfl, _, rfl, ?_⟩
    obtain ⟨vd, wd, _⟩ := (has_d (m0 := m0) (m1 := m1) (m2 := m2) (m3 := m3) (bk := bk)).way
    by_cases c : d = 0
    · subst c
      have T0 : m0 + m1 + m2 + m3 + bk = 0 := by omega
      have nW := no_ringW T0
      rw [decide_eq_true (congrArg V.int (show bk + [m0, m1, m2, m3].sum = 0 by rw [hsum]; omega))]
      refine iteT ?_
      refine ⟨_, rfl, rfl, rfl, W, four, rowsW m0 m1 m2 m3 bk, rfl, mW, fW, fun L H' l hl _ _ _ _ => absurd (hl.ring.mp (by simp)) nW, fun _ H21 s21 => ?_⟩
      refine ⟨rfl, true, rfl, ?_⟩
      refine iteT ?_
      refine ⟨_, rfl, rfl, rfl, W, four, rowsW m0 m1 m2 m3 bk, none, some "d", rfl, mW.same s21, fW, inN, inD, by simp, nW, fun H' z0 s => (z0 _ _ wd).elim, fun L H22 l t lt cl l5 nL eL s22 => ?_⟩
      obtain ⟨t', et', pl, _⟩ := cl
      obtain rfl := way_d pl l5
      refine ⟨by show 4 ≤ sizeLine; omega, fun L8 H23 n23 e23 s23 => ?_⟩
      refine ⟨natsD [4, 1, 3, 2], natsD [4, 1, 3, 2], dp_nats (SqL.of (s23 _ _ eL)), dp_nats (l := [4, 1, 3, 2]) (SqL.of e23), shaped_nats _, shaped_nats _, ?_⟩
      rw [eqv_nats, decide_eq_true rfl]
      exact q H23 (b020.trans (But.of ((s21.trans s22).trans s23)))
    · have d1 : d = 1 := by omega
      subst d1
      have T1 : m0 + m1 + m2 + m3 + bk < 0 := by omega
      rw [decide_eq_false (fun z => by have := V.int.inj z; rw [hsum] at this; omega)]
      refine iteF ?_
      -- the first of the turned lists
      have eW20 := S18 _ _ eW18
      refine ⟨5, rfl, by decide, by decide, fun U2 nU2 => ?_⟩
      refine lc_it (walk_range (lo := 0) (n := (5 : Int).toNat)) (fun i H' => Same H20 H' ∧ ∃ Ls : List PRow, H' U2 = some (.lst (Ls.map fun r => V.ref r.1)) ∧ (∀ r ∈ Ls, r.1 ≠ U2 ∧ H' r.1 = some (.lst (r.2.map V.int))) ∧ Ls.map (·.2) = (List.range i).map rot5) ⟨same_new (Same.refl' _) nU2, [], upd_same, (fun r hr => absurd hr List.not_mem_nil), rfl⟩ (fun _ _ _ _ => True.intro) ?_ ?_
      · rintro j x J1 J2 hj ⟨sj, Ls, ej, rj, kj⟩ ⟨rfl, rfl⟩
        have j5 : j < 5 := hj
        have lLs : Ls.length = j := by have := congrArg List.length kj; simpa using this
        refine ⟨rfl, yes_go ?_⟩
        refine ⟨_, rfl, by show 1 ≤ sizeLine; omega, fun q1 K1 nk1 ek1 sk1 => ?_⟩
        refine ⟨Wy, q1, _, _, rfl, rfl, sk1 _ _ (sj _ _ eW20), ek1, by show 4 + 1 ≤ sizeLine; omega, fun c1 K2 nk2 ek2 sk2 => ?_⟩
        refine ⟨_, rfl, 0 + (j : Int), rfl, c1, _, rfl, SqL.of ek2, fun c2 K3 nk3 ek3 sk3 => ?_⟩
        refine ⟨_, rfl, by show 1 ≤ sizeLine; omega, fun q2 K4 nk4 ek4 sk4 => ?_⟩
        have eW3 := (((sj.trans sk1).trans sk2).trans sk3) _ _ eW20
        refine ⟨Wy, q2, _, _, rfl, rfl, sk4 _ _ eW3, ek4, by show 4 + 1 ≤ sizeLine; omega, fun c3 K5 nk5 ek5 sk5 => ?_⟩
        refine ⟨_, rfl, 0 + (j : Int), rfl, c3, _, rfl, SqL.of ek5, fun c4 K6 nk6 ek6 sk6 => ?_⟩
        rw [Int.zero_add, cut_drop (by show j ≤ 5; omega)] at ek3
        rw [Int.zero_add, cut_take (by show j ≤ 5; omega)] at ek6
        refine ⟨c2, c4, _, _, rfl, rfl, ((sk4.trans sk5).trans sk6) _ _ ek3, ek6, by rw [List.length_drop, List.length_take]; show (5 - j) + min j 5 ≤ sizeLine; omega, fun c5 K7 nk7 ek7 sk7 => ?_⟩
        have s17 := (((((sk1.trans sk2).trans sk3).trans sk4).trans sk5).trans sk6).trans sk7
        have n57 : c5 ≠ U2 := (ne_of_none ((((((sk1.trans sk2).trans sk3).trans sk4).trans sk5).trans sk6) _ _ ej) nk7).symm
        refine ⟨_, s17 _ _ ej, by rw [List.length_map, lLs]; exact small1000 (by omega), same_but (sj.trans s17) But.refl.upd nU2, Ls ++ [(c5, rot5 j)], by rw [upd_same, List.map_append]; rfl, fun r hr => ?_, ?_⟩
        · rcases List.mem_append.mp hr with hr | hr
          · exact ⟨(rj r hr).1, by rw [upd_ne (rj r hr).1]; exact s17 _ _ (rj r hr).2⟩
          · obtain rfl := List.mem_singleton.mp hr
            refine ⟨n57, ?_⟩
            rw [upd_ne n57, ek7]
            show _ = some (HO.lst ((List.drop j ([1, 3, 2, 0, 4] : List Int) ++ List.take j ([1, 3, 2, 0, 4] : List Int)).map V.int))
            rw [List.map_append, List.map_drop, List.map_take]
            rfl
        · rw [List.map_append, kj, List.range_succ, List.map_append]
          rfl
      rintro H21 ⟨s21, Ls, e21, r21, k21⟩
      have lLs : Ls.length = 5 := by have := congrArg List.length k21; simpa using this
      refine ⟨U2, Ls, rfl, SqL.of e21, fun r hr => SqL.of (r21 r hr).2, fun Lt pm' pw S1 H22 n22 e22 s22 => ?_⟩
      obtain ⟨hd, tl, rfl⟩ : ∃ hd tl, Lt = hd :: tl := by
        cases Lt with
        | nil => have := pm'.length_eq; rw [lLs] at this; cases this
        | cons a b => exact ⟨a, b, rfl⟩
      have hhd : hd ∈ Ls := pm'.mem_iff.mp (List.mem_cons_self ..)
      have rots : ∀ r ∈ Ls, ∃ i < 5, r.2 = rot5 i := fun r hr => by
        have : r.2 ∈ (List.range (5 : Int).toNat).map rot5 := by rw [← k21]; exact List.mem_map_of_mem hr
        obtain ⟨i, hi, e⟩ := List.mem_map.mp this
        exact ⟨i, List.mem_range.mp hi, e.symm⟩
      obtain ⟨r3, hr3, er3⟩ : ∃ r ∈ Ls, r.2 = [0, 4, 1, 3, 2] := by
        have : ([0, 4, 1, 3, 2] : List Int) ∈ Ls.map (·.2) := by rw [k21]; decide +kernel
        obtain ⟨r, hr, e⟩ := List.mem_map.mp this
        exact ⟨r, hr, e⟩
      have le3 : hd.2 ≤ r3.2 := by
        rcases List.mem_cons.mp (pm'.mem_iff.mpr hr3) with z | z
        · rw [z]; exact List.le_refl _
        · exact (List.pairwise_cons.mp pw).1 r3 z
      have ehd : hd.2 = [0, 4, 1, 3, 2] := by
        obtain ⟨i, hi, e⟩ := rots hd hhd
        rw [e, er3] at le3
        have f : ∀ i : Fin 5, rot5 i.val ≤ [0, 4, 1, 3, 2] → rot5 i.val = [0, 4, 1, 3, 2] := by decide +kernel
        rw [e]
        exact f ⟨i, hi⟩ le3
      have eDue := s22 _ _ (r21 hd hhd).2
      rw [ehd] at eDue
      refine ⟨S1, _, 0, .ref hd.1, rfl, rfl, SqL.of e22, atI_nat (i := 0) rfl, ?_⟩
      have S22 := s21.trans s22
      have mW22 := mW.same S22
      have rgW := isRingW T1
      -- ring, some_move, is_ring
      refine ⟨_, rfl, rfl, rfl, W, four, rowsW m0 m1 m2 m3 bk, rfl, mW22, fW, fun L H23 l hl l5 nL eL s23 => ?_, fun hn => absurd rgW hn⟩
      obtain rfl := ringW T1 hl l5
      refine ⟨_, rfl, natsD [0, 4, 1, 3, 2], natsD [0, 4, 1, 3, 2], dp_nats (SqL.of eL), dp_nats (l := [0, 4, 1, 3, 2]) (SqL.of (s23 _ _ eDue)), shaped_nats _, shaped_nats _, _, rfl, ?_⟩
      rw [eqv_nats, decide_eq_true rfl]
      refine iteF ?_
      refine ⟨_, rfl, rfl, rfl, W, four, rowsW m0 m1 m2 m3 bk, rfl, mW22.same s23, fW, fun _ H24 s24 => ?_, fun hn => absurd rgW hn⟩
      refine ⟨rfl, _, rfl, ?_⟩
      rw [decide_eq_true rfl]
      refine iteF ?_
      have s2024 := (S22.trans s23).trans s24
      refine ⟨_, rfl, _, rfl, by show 1 ≤ sizeLine; omega, fun q1 K1 nk1 ek1 sk1 => ?_⟩
      refine ⟨Wy, q1, _, _, rfl, rfl, (s2024.trans sk1) _ _ eW20, ek1, by show 4 + 1 ≤ sizeLine; omega, fun c1 K2 nk2 ek2 sk2 => ⟨rfl, rfl, ?_⟩⟩
      have S2 := (s2024.trans sk1).trans sk2
      refine ⟨W, .ref c1, four, rowsW m0 m1 m2 m3 bk, true, rfl, mW.same S2, fW, .pos (l := [1, 3, 2, 0, 4]) (.inl ek2) (by simp) (show ∀ k ∈ [1, 3, 2, 0, 4], k < 5 by decide) (by decide) ⟨fun _ => ⟨some "a", _, .cons rfl (.cons rfl (.cons rfl (.cons rfl (.cons rfl .nil)))), by omega⟩, fun _ => rfl⟩, fun H25 s25 => ?_⟩
      refine ⟨_, _, rfl, rfl, _, rfl, iteF ?_⟩
      exact ⟨rfl, fun H26 s26 => q H26 (b020.trans (But.of ((S2.trans s25).trans s26)))⟩
end
end KM

set_option Elab.async false
set_option linter.all false
set_option maxRecDepth 100000
set_option maxHeartbeats 4000000
namespace KM
open PySem PySem.Spec PyProof.Rows L2 GL
/-! whether there is a ring, by the law -/
def spHg : Sp := fun vs H Q _ => ∃ (G R : Addr) (gs : List Str) (rs : List Row) (as : List Addr), vs = [.ref G, .ref R] ∧ H G = some (.lst (gs.map V.str)) ∧ H R = some (.lst (as.map V.ref)) ∧ RowsIn H as rs ∧ gs.length ≤ 4 ∧ GoodRows gs rs ∧ rs.length ≤ 30 ∧
  (KN.Ring rs → ∀ H', Same H H' → Q (.bl true) H') ∧ (¬ KN.Ring rs → ∀ H', Same H H' → Q (.bl false) H')
abbrev nHg : List Str := ["_law_goods", "_law_rows", "_law_found", "_law_near"]
theorem scHg : FnScope nHg ["_law_goods", "_law_rows"] (defScope sHg) := ⟨rfl, rfl, rfl, by decide +kernel, rfl, by decide +kernel, by decide +kernel⟩
theorem hg_go {vs : List V} {H : Hp} {Q : VK} {E : XK} (h : ∃ (G R : Addr) (gs : List Str) (rs : List Row) (as : List Addr), vs = [.ref G, .ref R] ∧ H G = some (.lst (gs.map V.str)) ∧ H R = some (.lst (as.map V.ref)) ∧ RowsIn H as rs ∧ gs.length ≤ 4 ∧ GoodRows gs rs ∧ rs.length ≤ 30 ∧
    ∀ (p : Bool) H', (p = true ↔ KN.Ring rs) → Same H H' → Q (.bl p) H') : spHg vs H Q E := by
  obtain ⟨G, R, gs, rs, as, e, a, b, c, d, f, l, q⟩ := h
  exact ⟨G, R, gs, rs, as, e, a, b, c, d, f, l, fun hg H' s => q true H' ⟨fun _ => hg, fun _ => rfl⟩ s, fun hg H' s => q false H' ⟨fun z => (nomatch z), fun z => absurd z hg⟩ s⟩
section
variable {P : Program} {w : World} {K : PySem.W.Frag} {mg : Str → Option Value} {base : Heap}
theorem ok_hasr {f : Addr} {fd : FuncData} (F : Fun K "_law_has_ring" "_law_has_ring" sHg f fd) (T : Bi mg) (TT : Has P w K mg base "_law_tight" 1 ["_law_goods", "_law_rows"] (spTt P w)) : FnG P w K mg base CX0 2 f fd ["_law_goods", "_law_rows"] spHg := by
  refine okG F scHg (fun vs H Q E h => ?_) (fun cdv A out s H vs Q E g hr h => ?_)
  · obtain ⟨G, R, gs, rs, as, rfl, _⟩ := h
    rfl
  · obtain ⟨G, R, gs, rs, as, rfl, eG, eR, rows, l2, good, lr, qy, qn⟩ := h
    have szl := sizeLine_eq
    have hr1 : Room 1 _ := hr
    have lpt := ptl_len gs
    refine ⟨_, (pss_cons (ps_set (i := 2) scHg.nd rfl (.inr rfl) (pe_has TT g hr1 (by rfl) (pa_cons (pv 0) (pa_cons (pv 1) pa_nil))))
      (pss_one (ps_ret (pe_callB (cr_any (by rfl)) (by rfl) T.any (by decide +kernel) (pa_cons (pe_lc (own := [("_law_near", 3)]) (g := gName 3) (tt := tYes) (te := tOp (rI0 fun i j => V.bl (decide (i < j))) (tOGet P w (tVar 2) (tTupL (tCons (tVar 3) (tCons (tVar 3) tNil)))) (tC (.int 0))) (by rfl) scHg.nd (pi_list (pe_op op_catL (pv 0) (pe_lstL (pa_cons pe_non pa_nil)))) (blkOk_by (own := [("_law_near", 3)]) (N := nHg) (sc := defScope sHg) (by decide +kernel)) (fun _ _ _ _ _ => by exact (pg_name (i := 3) scHg.nd rfl (.inl rfl))) (fun _ _ _ _ _ => pts_nil) (fun _ _ _ _ _ => by exact (pe_cmpR op_lt (pe_oget (by have := hr.units; exact Nat.lt_of_le_of_lt (Nat.add_le_add_left (by decide) _) this) (pv 2) (pe_tupL (pa_cons (pv 3) (pa_cons (pv 3) pa_nil))) (fun _ _ => rfl)) pe_int (nomark _)))) pa_nil))))), ?_⟩
    refine ⟨_, rfl, _, rfl, rfl, rfl, G, R, gs, rs, as, rfl, eG, eR, rows, l2, good, lr, fun d f0 H1 nd td lt s1 => ?_⟩
    have lv : ((ptl gs).map oV).length = gs.length + 1 := by rw [List.length_map, ptl_len]
    refine ⟨_, rfl, by show 1 ≤ sizeLine; decide, fun b1 H2 n2 e2 s2 => ⟨G, b1, gs.map V.str, [.non], rfl, rfl, s2 _ _ (s1 _ _ eG), e2, by rw [List.length_map]; show gs.length + 1 ≤ sizeLine; omega, fun Pp H3 n3 e3 s3 => ?_⟩⟩
    rw [ptl_v] at e3
    have t3 := (td.same s2).same s3
    refine ⟨Pp, rfl, ⟨_, SqL.of e3⟩, fun L nL => ?_⟩
    refine lc_it (walk_list (K := K) (a := Pp) (xs := (ptl gs).map oV)) (fun i H' => Same H3 H' ∧ ∃ bs : List Bool, H' L = some (.lst (bs.map V.bl)) ∧ bs.length ≤ i ∧ (bs.any id = true ↔ ∃ p ∈ (ptl gs).take i, ∃ s, f0 p p = some s ∧ s < 0)) ⟨same_new (Same.refl' _) nL, [], upd_same, Nat.le_refl _, by simp⟩ (fun i H' _ ⟨z, _⟩ => SqL.of (z _ _ e3)) ?_ ?_
    · rintro i x H4 H5 hi ⟨s4, bs, e4, lb, iff4⟩ ⟨rfl, hx⟩
      obtain ⟨p, hp, rfl⟩ := oV_at hx
      rw [lv] at hi
      refine ⟨rfl, yes_go ?_⟩
      obtain ⟨s0, hf, _⟩ := lt.b.c p p [] 0 (List.mem_of_getElem? hp) .nil (Nat.zero_le _)
      refine ⟨_, rfl, _, rfl, _, rfl, by show 2 ≤ sizeLine; decide, fun t1 H6 n6 e6 s6 => ?_⟩
      refine ⟨d, _, rfl, by rw [← show ((some s0 : Option Int).map V.int) = some (V.int s0) from rfl, ← hf]; exact ((t3.same s4).same s6).get e6, _, _, rfl, rfl, ?_⟩
      have e6' := s6 _ _ e4
      refine ⟨_, e6', by rw [List.length_map]; exact small1000 (by omega), same_but (s4.trans s6) But.refl.upd nL, bs ++ [decide (s0 < 0)], by rw [upd_same]; simp, by simp; omega, ?_⟩
      rw [take_more hp, List.any_append, Bool.or_eq_true, iff4]
      constructor
      · rintro (⟨p', m, z⟩ | z)
        · exact ⟨p', List.mem_append_left _ m, z⟩
        · have z : decide (s0 < 0) = true := by simpa using z
          exact ⟨p, List.mem_append_right _ (List.mem_singleton.mpr rfl), s0, hf, of_decide_eq_true z⟩
      · rintro ⟨p', m, s, z1, z2⟩
        rcases List.mem_append.mp m with m | m
        · exact .inl ⟨p', m, s, z1, z2⟩
        · rw [List.mem_singleton.mp m] at z1
          rw [hf] at z1
          cases z1
          exact .inr (by simpa using z2)
    · rintro H4 ⟨s4, bs, e4, lb, iff4⟩
      rw [lv, ← lpt, List.take_length, ← lt.b.ring (ptl_in good)] at iff4
      refine ⟨L, bs, rfl, SqL.of e4, ?_⟩
      have S4 := ((s1.trans s2).trans s3).trans s4
      show Q (V.bl (bs.any id)) H4
      cases hb : bs.any id with
      | true => exact qy (iff4.mp hb) H4 S4
      | false => exact qn (fun z => by rw [iff4.mpr z] at hb; cases hb) H4 S4
end
end KM

set_option Elab.async false
set_option linter.all false
set_option maxRecDepth 100000
set_option maxHeartbeats 4000000
namespace KM
open PySem PySem.Spec PyProof.Rows L2 GL
/-! the law of one pot -/
abbrev sRt : Stmt := top 76
/-- right(pot): True -/
def spRight : Sp := fun vs H Q _ => ∃ p : Addr, vs = [.ref p] ∧ PotAt H p ∧ ∀ H', But p H H' → Q (.bl true) H'
abbrev nRt : List Str := ["_law_pot_here", "_law_turn", "_law_goods", "_law_rows", "_law_moves", "_law_chains_here", "_law_shown", "_law_due"]
theorem scRt : FnScope nRt ["_law_pot_here"] (defScope sRt) := ⟨rfl, rfl, rfl, by decide +kernel, rfl, by decide +kernel, by decide +kernel⟩
theorem seq_join4 {t1 t2 t3 t4 u : TS} {D : L2.Ends} {σ : L2.St} {H : Hp} (P : L2.St → Hp → Prop) (hu : ∀ σ' H', P σ' H' → u D σ' H') (h : (∀ σ' H', P σ' H' → u D σ' H') → tSeq t1 (tSeq t2 (tSeq t3 (tSeq t4 u))) D σ H) : ({ D with nx := tSeq t1 (tSeq t2 (tSeq t3 (tSeq t4 u))) D } : L2.Ends).nx σ H := h hu
theorem menu_sorted : ∀ gs ∈ menu, sortedS gs = true := by decide +kernel
section
variable {P : Program} {w : World} {K : PySem.W.Frag} {mg : Str → Option Value} {base : Heap} {C : Addr}
theorem ok_right {f : Addr} {fd : FuncData} (F : Fun K "_law_right" "_law_right" sRt f fd) (T : Bi mg) (M : Mv P w K mg base C)
    (SC : Has P w K mg base "_law_scene" 3 ["_law_pot_here", "_law_most"] spScene) (CS : Has P w K mg base "_law_chains" 1 ["_law_rows", "_law_most"] spCs)
    (RD : Has P w K mg base "_law_ring_due" 2 ["_law_rows", "_law_chains_here"] spRd) (HG : Has P w K mg base "_law_has_ring" 2 ["_law_goods", "_law_rows"] spHg)
    (MR : Has P w K mg base "_law_move_right" 8 ["_law_moves", "_law_goods", "_law_rows"] (spMr C)) (BD : Has P w K mg base "_law_bounds_right" 7 ["_law_moves", "_law_goods", "_law_rows", "_law_chains_here"] (spBd C))
    (RR : Has P w K mg base "_law_ring_right" 6 ["_law_moves", "_law_rows", "_law_due"] (spRR C)) (NM : Has P w K mg base "_law_no_move" 7 ["_law_moves", "_law_goods"] (spNmv C))
    (BR : Has P w K mg base "_law_broken_right" 8 ["_law_pot_here", "_law_moves", "_law_goods", "_law_rows"] (spBr C)) (LR : Has P w K mg base "_law_lists_right" 4 ["_law_pot_here", "_law_moves", "_law_rows", "_law_chains_here"] (spLr C))
    (KR : Has P w K mg base "_law_known_right" 9 ["_law_pot_here"] spKr) :
    FnG P w K mg base CX0 10 f fd ["_law_pot_here"] spRight := by
  refine okG F scRt (fun vs H Q E h => ?_) (fun cdv A out s H vs Q E g hr h => ?_)
  · obtain ⟨p, rfl, _⟩ := h
    rfl
  · obtain ⟨p, rfl, hp, q⟩ := h
    have hr9 : Room 9 _ := hr
    have hr8 : Room 8 _ := hr.mono (by decide)
    have hr7 : Room 7 _ := hr.mono (by decide)
    have hr6 : Room 6 _ := hr.mono (by decide)
    have hr4 : Room 4 _ := hr.mono (by decide)
    have hr3 : Room 3 _ := hr.mono (by decide)
    have hr2 : Room 2 _ := hr.mono (by decide)
    have hr1 : Room 1 _ := hr.mono (by decide)
    have szl := sizeLine_eq
    refine ⟨_, (pss_cons (ps_for PassesOwn.never rfl (pi_range1 (by rfl) T.range (pa_cons pe_int pa_nil)) (pg_name (i := 1) scRt.nd rfl (.inl rfl))
      (pss_cons (ps_asg (pe_has SC g hr3 (by rfl) (pa_cons (pv 0) (pa_cons pe_int pa_nil))) (pg_tup rfl (pgs_cons (pg_name (i := 2) scRt.nd rfl (.inl rfl)) (pgs_cons (pg_name (i := 3) scRt.nd rfl (.inl rfl)) pgs_nil))))
      (pss_cons (ps_par (i := 4) (j := 5) (by rfl) scRt.nd rfl rfl (by decide) rfl rfl (pa_cons (pe_hasC M.mk2 g hr7 (by rfl) M.gM (pa_cons (pv 2) (pa_cons (pv 3) pa_nil)) pk_nil) (pa_cons (pe_has CS g hr1 (by rfl) (pa_cons (pv 3) (pa_cons (pe_op op_add (pe_callB call_len_seq (by rfl) T.len PySem.boot_len (pa_cons (pv 2) pa_nil)) pe_int) pa_nil))) pa_nil)) (by rfl))
      (pss_cons (ps_par (i := 6) (j := 7) (by rfl) scRt.nd rfl rfl (by decide) rfl rfl (pa_cons (pe_callB (cr_repr M.repr g hr2) (by rfl) T.repr (by decide +kernel) (pa_cons (pv 4) pa_nil)) (pa_cons (pe_has RD g hr2 (by rfl) (pa_cons (pv 3) (pa_cons (pv 5) pa_nil))) pa_nil)) (by rfl))
      (pss_cons (ps_if (pt_cmpR op_ne (pe_cmpR op_notN (pv 7) pe_non (nomark _)) (pe_has HG g hr2 (by rfl) (pa_cons (pv 2) (pa_cons (pv 3) pa_nil))) (nomark _)) (pss_one (ps_ret pe_bl)) pss_nil)
      (pss_cons (ps_if (PW.pt (pw_and (pt_cmpR op_isN (pv 7) pe_non (nomark _)) (pw_and1 (pt_not (PW.pt (pw_and (pt_val (pe_has MR g hr8 (by rfl) (pa_cons (pv 4) (pa_cons (pv 2) (pa_cons (pv 3) pa_nil))))) (pw_and1 (pt_val (pe_has BD g hr7 (by rfl) (pa_cons (pv 4) (pa_cons (pv 2) (pa_cons (pv 3) (pa_cons (pv 5) pa_nil))))))))))))) (pss_one (ps_ret pe_bl)) pss_nil)
      (pss_cons (ps_if (PW.pt (pw_and (pt_cmpR op_notN (pv 7) pe_non (nomark _)) (pw_and1 (pt_not (PW.pt (pw_and (pt_val (pe_has RR g hr6 (by rfl) (pa_cons (pv 4) (pa_cons (pv 3) (pa_cons (pv 7) pa_nil))))) (pw_and1 (pt_val (pe_has NM g hr7 (by rfl) (pa_cons (pv 4) (pa_cons (pv 2) pa_nil))))))))))) (pss_one (ps_ret pe_bl)) pss_nil)
      (pss_cons (ps_if (PW.pt (pw_or (pt_not (pt_val (pe_has BR g hr8 (by rfl) (pa_cons (pv 0) (pa_cons (pv 4) (pa_cons (pv 2) (pa_cons (pv 3) pa_nil))))))) (pw_or1 (pt_not (pt_val (pe_has LR g hr4 (by rfl) (pa_cons (pv 0) (pa_cons (pv 4) (pa_cons (pv 3) (pa_cons (pv 5) pa_nil)))))))))) (pss_one (ps_ret pe_bl)) pss_nil)
      (pss_one (ps_if (pt_cmpR op_ne (pe_callB (cr_repr M.repr g hr2) (by rfl) T.repr (by decide +kernel) (pa_cons (pv 4) pa_nil)) (pv 6) (nomark _)) (pss_one (ps_ret pe_bl)) pss_nil))))))))))
      (pss_one (ps_ret (pe_has KR g hr9 (by rfl) (pa_cons (pv 0) pa_nil))))), ?_⟩
    refine ⟨3, rfl, by decide, by decide, ?_⟩
    refine for_range (n := 3) (fun i σ H' => ∃ (x1 x2 x3 x4 x5 x6 x7 : Option V), σ = [some (.ref p), x1, x2, x3, x4, x5, x6, x7] ∧ PotAt H' p ∧ But p H H') ?_ ?_ ?_
    · exact ⟨_, _, _, _, _, _, _, rfl, hp, But.refl⟩
    · rintro i σ H0 hi ⟨x1, x2, x3, x4, x5, x6, x7, rfl, pot0, bb0⟩
      refine ⟨_, rfl, rfl, rfl, p, 7, rfl, pot0, by decide, fun gs rs G B t as H1 hg good low len nt nG nB GB et eG eB rows pot1 b1 => ?_⟩
      have GG := menu_good gs hg
      have fit : Fit gs rs := ⟨GG, menu_sorted gs hg, good, by omega⟩
      have low100 : ∀ r ∈ rs, r.2.2.natAbs ≤ 100 := fun r hr => by have := low r hr; omega
      have gne : gs ≠ [] := fun z => by have := GG.l1; rw [z] at this; simp at this
      have g4 := GG.l2
      obtain ⟨x8, y8, hpp0, _⟩ := id pot0
      have hGp : G ≠ p := ne_some nG hpp0
      have hBp : B ≠ p := ne_some nB hpp0
      refine ⟨t, _, rfl, SqT.of et, rfl, _, _, rfl, _, _, rfl, rfl, ?_⟩
      refine ⟨_, rfl, _, rfl, rfl, rfl, ?_⟩
      refine q_new (K := K) (.inl (SqL.of eG)) (.inl (SqL.of eB)) rows GG good (by omega) fun m hs H2 nm pm fm mx s2 => ?_
      have ehs : hs = gs := sorted_one pm fm.s fit.s
      subst ehs
      have mxa := mx.at
      -- the chains
      refine ⟨_, rfl, _, rfl, G, _, rfl, .inl (SqL.of (s2 _ _ eG)), _, _, rfl, rfl, rfl, rfl, B, hs, rs, as, hs.length + 1, ?_, s2 _ _ eB, rows_same rows s2, len, GG, good, by omega, fun L ls H3 nL eL lL nls s3 => ?_⟩
      · show [V.ref B, V.int (((hs.map V.str).length : Int) + 1)] = _
        rw [List.length_map]
        rfl
      refine ⟨_, _, rfl, ?_⟩
      have s23 := s2.trans s3
      have eG3 := s23 _ _ eG
      have eB3 := s23 _ _ eB
      have rows3 : RowsIn H3 as rs := rows_same rows s23
      have m3 := mxa.same s3
      have pot3 := pot_same pot1 s23
      obtain ⟨x9, y9, ep3, _⟩ := id pot3
      obtain ⟨x10, y10, ep2, _⟩ := id (pot_same pot1 s2)
      have hLp : L ≠ p := ne_some nL ep2
      have nlp : ∀ a ∈ ls, a ≠ p := fun a ha => ne_some (nls a ha) ep2
      have b03 : But p H H3 := (bb0.trans b1).trans (But.of s23)
      refine seq_join4 (fun σ' H' => ∃ vd : Option V, σ' = [some (.ref p), some (.int (0 + i)), some (.ref G), some (.ref B), some (.ref m), some (.ref L), some (.str (reprM hs rs)), vd] ∧ Same H3 H') ?_ ?_
      · rintro σ' H4 ⟨vd, rfl, s4⟩
        have pot4 := pot_same pot3 s4
        refine ⟨_, rfl, _, rfl, _, rfl, _, rfl, rfl, rfl, p, m, G, B, hs, rs, as, rfl, pot4, m3.same s4, fit, low100, s4 _ _ eG3, s4 _ _ eB3, rows_same rows3 s4, fun H5 pot5 b5 => ⟨_, rfl, iteF ?_⟩⟩
        have b35 : But p H3 H5 := (But.of s4).trans b5
        refine ⟨_, rfl, _, rfl, _, rfl, _, rfl, rfl, rfl, p, m, B, L, hs, rs, as, ls, hs.length + 1, rfl, pot5, m3.but pot3 b35, fit, len, b35 _ _ hBp eB3, rows_but rows3 b35 ep3, b35 _ _ hLp eL, lsts_butp lL nlp b35, by omega, nlp, hLp, fun H6 pot6 b6 => ⟨_, rfl, iteF ?_⟩⟩
        have b36 := b35.trans b6
        have m6 := m3.but pot3 b36
        obtain ⟨dz, fq, ez, _⟩ := m6.ins
        refine ⟨_, rfl, m, dz, fq, rfl, ez, m, hs, rs, rfl, m6, fit, fun H7 s7 => ⟨_, rfl, _, rfl, rfl, _, rfl, ?_⟩⟩
        simp only [decide_true, Bool.not_true]
        refine iteF ?_
        exact ⟨_, _, _, _, _, _, _, rfl, pot_same pot6 s7, (b03.trans b36).trans (But.of s7)⟩
      · intro hP
        obtain ⟨dx, fs, em, _⟩ := m3.ins
        refine ⟨_, rfl, m, dx, fs, rfl, em, m, hs, rs, rfl, m3, fit, fun H4 s4 => ?_⟩
        have rows4 := rows_same rows3 s4
        refine ⟨_, rfl, _, rfl, _, rfl, rfl, rfl, B, L, hs, rs, as, ls, hs.length + 1, rfl, s4 _ _ eB3, rows4, GG, good, len, by omega, by simp [pts], s4 _ _ eL, lsts_same lL s4, fun nn H5 s5 => ⟨_, _, rfl, ?_⟩, fun l a H5 rl l5 ea s5 => ⟨_, _, rfl, ?_⟩⟩
        · have s35 := s4.trans s5
          refine ⟨_, rfl, rfl, _, rfl, _, rfl, rfl, rfl, hg_go ⟨G, B, hs, rs, as, rfl, s35 _ _ eG3, s35 _ _ eB3, rows_same rows3 s35, g4, good, by omega, fun b H6 hb s6 => ?_⟩⟩
          obtain rfl : b = false := by
            cases b with
            | false => rfl
            | true => exact absurd (hb.mp rfl) nn
          refine ⟨rfl, _, rfl, ?_⟩
          rw [show (!decide (V.bl (!decide (V.non = V.non)) = V.bl false)) = false by simp]
          refine iteF ?_
          have s36 := s35.trans s6
          refine ⟨_, rfl, rfl, _, rfl, ?_⟩
          rw [decide_eq_true rfl]
          refine iteT ?_
          refine ⟨_, rfl, _, rfl, _, rfl, rfl, rfl, m, G, B, hs, rs, as, rfl, m3.same s36, fit, s36 _ _ eG3, s36 _ _ eB3, rows_same rows3 s36, nn, fun H7 s7 => ⟨_, rfl, iteT ?_⟩⟩
          have s37 := s36.trans s7
          refine ⟨_, rfl, _, rfl, _, rfl, _, rfl, rfl, rfl, m, G, B, L, hs, rs, as, ls, hs.length + 1, rfl, m3.same s37, fit, len, low100, s37 _ _ eG3, s37 _ _ eB3, rows_same rows3 s37, s37 _ _ eL, lsts_same lL s37, by omega, Nat.le_refl _, nn, fun H8 s8 => ⟨_, rfl, ?_⟩⟩
          refine iteF ?_
          refine ⟨_, rfl, rfl, _, rfl, ?_⟩
          rw [show (!decide (V.non = V.non)) = false by simp]
          refine iteF (iteF ?_)
          exact hP _ _ ⟨_, rfl, s37.trans s8⟩
        · have s35 := s4.trans s5
          refine ⟨_, rfl, rfl, _, rfl, _, rfl, rfl, rfl, hg_go ⟨G, B, hs, rs, as, rfl, s35 _ _ eG3, s35 _ _ eB3, rows_same rows3 s35, g4, good, by omega, fun b H6 hb s6 => ?_⟩⟩
          have rg : KN.Ring rs := rl.ring.mp (by simp)
          obtain rfl : b = true := hb.mpr rg
          refine ⟨rfl, _, rfl, ?_⟩
          have nr : ¬ V.ref a = V.non := fun z => by cases z
          rw [show (!decide (V.bl (!decide (V.ref a = V.non)) = V.bl true)) = false by rw [decide_eq_false nr]; simp]
          refine iteF ?_
          have s36 := s35.trans s6
          refine ⟨_, rfl, rfl, _, rfl, ?_⟩
          rw [decide_eq_false nr]
          refine iteF (iteF ?_)
          refine ⟨_, rfl, rfl, _, rfl, ?_⟩
          rw [decide_eq_false nr]
          refine iteT ?_
          refine ⟨_, rfl, _, rfl, _, rfl, rfl, rfl, m, B, a, hs, rs, l, rfl, m3.same s36, fit, s6 _ _ ea, rl, by omega, fun H7 s7 => ⟨_, rfl, iteT ?_⟩⟩
          have s37 := s36.trans s7
          refine ⟨_, rfl, _, rfl, rfl, rfl, m, G, hs, rs, rfl, m3.same s37, fit, s37 _ _ eG3, gne, rg, fun H8 s8 => ⟨_, rfl, ?_⟩⟩
          refine iteF ?_
          exact hP _ _ ⟨_, rfl, s37.trans s8⟩
    · rintro σ H0 ⟨x1, x2, x3, x4, x5, x6, x7, rfl, pot0, bb0⟩
      exact ⟨_, rfl, rfl, rfl, p, rfl, pot0, fun H' b => q H' (bb0.trans b)⟩
end
end KM

set_option Elab.async false
set_option linter.all false
set_option maxRecDepth 100000
set_option maxHeartbeats 4000000
namespace KM
open PySem PySem.Spec PyProof.Rows L2 GL
/-! the law -/
abbrev sLaw : Stmt := top 77
abbrev nLaw : List Str := ["_law_script", "_law_k"]
/-- pot(script, k): a new pot -/
def spPot (K : PySem.W.Frag) : Sp := fun vs H Q _ => ∃ (a : Addr) (k : Nat) (ns : List Int), vs = [.ref a, .int k] ∧ SqL K H a (ns.map V.int) ∧ k < 4 ∧ ∀ p H', H p = none → PotAt H' p → Same H H' → Q (.ref p) H'
def spLaw (K : PySem.W.Frag) : Sp := fun vs H Q _ => ∃ (a : Addr) (ns : List Int), vs = [.ref a] ∧ SqL K H a (ns.map V.int) ∧ ∀ H', Q (.bl true) H'
theorem at_int {ns : List Int} {k : Nat} (h : k < ns.length) : ∃ z, atI (ns.map V.int) (k : Int) = some (.int z) := by
  obtain ⟨v, e, q⟩ := atI_of (xs := ns.map V.int) (d := (k : Int)) (by omega) (by rw [List.length_map]; omega)
  rw [Int.toNat_natCast] at q
  obtain ⟨z, _, rfl⟩ := get_map q
  exact ⟨z, e⟩
section
variable {P : Program} {w : World} {K : PySem.W.Frag} {mg : Str → Option Value} {base : Heap} {C : Addr}
theorem scPot : FnScope ["_law_script", "_law_k", "_law_cell"] ["_law_script", "_law_k"] (defScope sPot) :=
  ⟨rfl, rfl, rfl, by decide +kernel, rfl, by decide +kernel, by decide +kernel⟩
theorem scLaw : FnScope nLaw ["_law_script"] (defScope sLaw) :=
  ⟨rfl, rfl, rfl, by decide +kernel, rfl, by decide +kernel, by decide +kernel⟩
theorem ok_pot {f : Addr} {fd : FuncData} (F : Fun K "_law_pot" "_law_pot" sPot f fd) (T : Bi mg) :
    FnG P w K mg base CX0 1 f fd ["_law_script", "_law_k"] (spPot K) := by
  refine okG F scPot (fun vs H Q E h => ?_) (fun cdv A out s H vs Q E g hr h => ?_)
  · obtain ⟨a, k, ns, rfl, _⟩ := h
    rfl
  · obtain ⟨a, k, ns, rfl, hS, hk, q⟩ := h
    refine ⟨_, (pss_cons (ps_set (i := 2) scPot.nd rfl (.inl rfl) (pe_op op_add (pe_op op_mul pe_int (pv 1)) pe_int))
      (pss_cons (ps_if (pt_cmpR op_lt (pv 1) (pe_callB call_len_seq (by rfl) T.len PySem.boot_len (pa_cons (pv 0) pa_nil)) (nomark _)) (pss_one (ps_set (i := 2) scPot.nd rfl (.inl rfl) (pe_callB call_abs (by rfl) T.abs (by decide +kernel) (pa_cons (pe_ix ix_list (pv 0) (pv 1) (fun _ _ => rfl)) pa_nil)))) pss_nil)
      (pss_one (ps_ret (pe_lstL (pa_cons (pe_callB (call_max2 (by rfl)) (by rfl) T.max (by decide +kernel) (pa_cons pe_int (pa_cons (pe_op op_sub (pv 2) (pe_op op_pow pe_int pe_int)) pa_nil))) (pa_cons (pe_op op_add (pe_op op_mod_l (pe_callTy call_int1 (by rfl) T.int (by decide +kernel) (pa_cons (pe_op op_mul (pe_callTy call_int1 (by rfl) T.int (by decide +kernel) (pa_cons (pe_op op_add (pe_op op_mod_l (pe_callTy call_int1 (by rfl) T.int (by decide +kernel) (pa_cons (pv 2) pa_nil)) pe_int) pe_int) pa_nil)) (pe_op op_pow (pe_op op_add (pe_op op_mul pe_int (pv 1)) pe_int) pe_int)) pa_nil)) pe_int) pe_int) pa_nil))))))), ?_⟩
    refine ⟨_, rfl, _, _, rfl, rfl, .inl ⟨by decide, by decide⟩, _, _, rfl, rfl, ?_⟩
    -- the last row
    have fin : ∀ c : Int, tRet (tLstL (tCons (tCB (fun xs H Q => ∃ i j, xs = [.int i, .int j] ∧ Q (.int (if j > i then j else i)) H) (tCons (tC (.int 0)) (tCons (tOp (rI0 fun i j => .int (i - j)) (tVar 2) (tOp (rI CPow fun i j => .int (i ^ j.toNat)) (tC (.int 10)) (tC (.int 18)))) tNil)))
        (tCons (tOp (rI0 fun i j => .int (i + j)) (tOp rModL (tCB (fun xs H Q => (∃ i, xs = [.int i] ∧ Q (.int i) H) ∨ ∃ k, xs = [.bl k] ∧ Q (.int (if k then 1 else 0)) H) (tCons (tOp (rI CMul fun i j => .int (i * j))
          (tCB (fun xs H Q => (∃ i, xs = [.int i] ∧ Q (.int i) H) ∨ ∃ k, xs = [.bl k] ∧ Q (.int (if k then 1 else 0)) H) (tCons (tOp (rI0 fun i j => .int (i + j)) (tOp rModL (tCB (fun xs H Q => (∃ i, xs = [.int i] ∧ Q (.int i) H) ∨ ∃ k, xs = [.bl k] ∧ Q (.int (if k then 1 else 0)) H) (tCons (tVar 2) tNil)) (tC (.int 2147483549))) (tC (.int 17))) tNil))
          (tOp (rI CPow fun i j => .int (i ^ j.toNat)) (tOp (rI0 fun i j => .int (i + j)) (tOp (rI CMul fun i j => .int (i * j)) (tC (.int 2)) (tVar 1)) (tC (.int 5))) (tC (.int 3)))) tNil)) (tC (.int 2147483477))) (tC (.int 1))) tNil)))
        { nx := fun _ H' => Q .non H', rt := Q } [some (.ref a), some (.int k), some (.int c)] H := fun c => by
      refine ⟨_, rfl, _, _, rfl, rfl, ⟨by decide, by decide, by decide⟩, _, _, rfl, rfl, _, _, rfl, ?_⟩
      refine ⟨_, rfl, .inl ⟨_, rfl, _, _, rfl, rfl, by decide, fun r r0 r1 _ => ⟨_, _, rfl, rfl, .inl ⟨_, rfl, ?_⟩⟩⟩⟩
      refine ⟨_, rfl, _, _, rfl, rfl, .inl ⟨by decide, by decide⟩, _, _, rfl, rfl, _, _, rfl, rfl, ⟨by decide, by decide, by omega⟩, ?_⟩
      refine ⟨_, _, rfl, rfl, .inl ⟨by omega, by omega⟩, .inl ⟨_, rfl, _, _, rfl, rfl, by decide, fun b b0 b1 _ => ⟨_, _, rfl, rfl, by show 2 ≤ sizeLine; decide, fun p H' n e s' => ?_⟩⟩⟩
      refine q p H' n ⟨_, _, e, ?_, by omega, by omega⟩ s'
      split <;> omega
    refine ⟨_, rfl, _, rfl, a, _, rfl, .inl hS, _, _, rfl, rfl, _, rfl, ?_⟩
    refine ite2 (fun c => ?_) (fun c => ?_)
    · have c1 : (k : Int) < (ns.map V.int).length := of_decide_eq_true c
      rw [List.length_map] at c1
      obtain ⟨z, hz⟩ := at_int (ns := ns) (k := k) (by omega)
      refine ⟨_, rfl, _, rfl, a, _, (k : Int), .int z, rfl, rfl, hS, hz, _, rfl, ?_⟩
      exact fin _
    · exact fin _
theorem ok_law {f : Addr} {fd : FuncData} (F : Fun K "law" "law" sLaw f fd) (T : Bi mg) (O : Has P w K mg base "_law_pot" 1 ["_law_script", "_law_k"] (spPot K))
    (R : Has P w K mg base "_law_right" 10 ["_law_pot_here"] spRight) : FnG P w K mg base CX0 11 f fd ["_law_script"] (spLaw K) := by
  refine okG F scLaw (fun vs H Q E h => ?_) (fun cdv A out s H vs Q E g hr h => ?_)
  · obtain ⟨a, ns, rfl, _⟩ := h
    rfl
  · obtain ⟨a, ns, rfl, hS, q⟩ := h
    have hr1 : Room 1 _ := hr.mono (by decide)
    refine ⟨_, (pss_one (ps_ret (pe_callB (cr_all (by rfl)) (by rfl) T.all (by decide +kernel) (pa_cons (pe_lc (own := [("_law_k", 1)]) (g := gName 1) (by rfl) scLaw.nd (pi_range1 (by rfl) T.range (pa_cons (pe_callB (call_max2 (by rfl)) (by rfl) T.max (by decide +kernel) (pa_cons pe_int (pa_cons (pe_callB (call_min2 (by rfl)) (by rfl) T.min (by decide +kernel) (pa_cons pe_int (pa_cons (pe_callB call_len_seq (by rfl) T.len PySem.boot_len (pa_cons (pv 0) pa_nil)) pa_nil))) pa_nil))) pa_nil)) (blkOk_by (own := [("_law_k", 1)]) (N := nLaw) (sc := defScope sLaw) (by decide +kernel)) (fun _ _ _ _ _ => pg_name (i := 1) scLaw.nd rfl (.inl rfl)) (fun _ _ _ _ _ => pts_nil) (fun _ _ _ _ _ => by exact (pe_has R g hr (by rfl) (pa_cons (pe_has O g hr1 (by rfl) (pa_cons (pv 0) (pa_cons (pv 1) pa_nil))) pa_nil)))) pa_nil)))), ?_⟩
    obtain ⟨N, hN, n0, n4⟩ : ∃ N : Int, (if (if ((ns.map V.int).length : Int) < 3 then ((ns.map V.int).length : Int) else 3) > 1 then (if ((ns.map V.int).length : Int) < 3 then ((ns.map V.int).length : Int) else 3) else 1) = N ∧ 0 ≤ N ∧ N ≤ 3 := by
      refine ⟨_, rfl, ?_, ?_⟩ <;> split <;> (try split) <;> omega
    refine ⟨_, rfl, a, _, rfl, .inl hS, 3, _, rfl, 1, _, rfl, N, congrArg (fun z => [V.int z]) hN, by omega, by omega, fun D5 nD5 => lc_range (lo := 0) (n := N.toNat)
      (fun i H' => Same H H' ∧ H' D5 = some (.lst ((List.replicate i true).map V.bl))) ⟨same_new (Same.refl' _) nD5, upd_same⟩ ?_ ?_⟩
    · rintro i H' hi ⟨sd, eD5⟩
      refine ⟨rfl, yes_go ?_⟩
      refine ⟨_, rfl, _, rfl, rfl, rfl, a, i, ns, congrArg (fun z => [V.ref a, V.int z]) (Int.zero_add _), sd.seq hS, by omega, fun p H2 np pot s2 => ⟨rfl, rfl, p, rfl, pot, fun H3 b3 => ?_⟩⟩
      have nDp : D5 ≠ p := ne_of_none eD5 np
      have far : ∀ c o, H c = some o → H3 c = some o := fun c o e => b3 _ _ (ne_of_none (sd _ _ e) np) (s2 _ _ (sd _ _ e))
      refine ⟨_, b3 _ _ nDp (s2 _ _ eD5), by rw [List.length_map, List.length_replicate]; exact small1000 (by omega), ?_, ?_⟩
      · intro c o e
        rw [upd_ne (ne_of_none e nD5)]
        exact far c o e
      · rw [upd_same, List.replicate_succ', List.map_append]
        rfl
    · rintro H25 ⟨S25, eD5⟩
      refine ⟨D5, List.replicate N.toNat true, rfl, SqL.of eD5, ?_⟩
      have z : (List.replicate N.toNat true).all id = true := by simp
      show Q (V.bl ((List.replicate N.toNat true).all id)) H25
      rw [z]
      exact q H25
end
end KM

set_option Elab.async false
set_option linter.all false
set_option maxRecDepth 100000
set_option maxHeartbeats 4000000
/-! The end: a promise that is kept where no guard is up is kept by the law's own call. -/
namespace GL
open PySem PySem.Spec PyProof.Rows L2
theorem clr0 : Clr callerA := rfl

section
variable {P : Program} {w : World} {K : PySem.W.Frag} {mg mb : Str → Option Value} {k : Nat} {f p : Addr} {fd : FuncData} {x : Str} {sp : Sp} {s0 : Shared} {us : List Value} {zs : List Int}
/-- what the end of the law's call tells -/
abbrev Told (s0 : Shared) : Result → Shared → Prop := fun r s2 =>
  r = .ok (.ret (.bool true)) ∧ OldK s0.heap s2.heap ∧ s2.os = s0.os ∧ AllBare s2.gens
/-- the call from a heap of letters: nothing but the script at p may stand in it -/
theorem call_from (H : Hp) (kin : K.In s0.heap) (nsG : s0.heap.Ns mainGlobals mg) (nsB : s0.heap.Ns builtinsNs mb)
    (boot : ∀ y : Str, y ≠ "__name__" → mb y = bootBuiltins y) (lim : s0.heap.NoLimit) (gens : s0.gens = #[])
    (hp : s0.heap.get? p = some { cls := .type "list", data := .seq us.toArray }) (room : Room k callerA)
    (F : ∀ base : Heap, K.In base → base.Ns mainGlobals mg → FnG P w K mg base CX0 k f fd [x] sp) (bnd : ∀ (s : Shared) (u : Value), BindsTo s fd ⟨[u], []⟩ [(x, u)])
    (only : Only H) (ok : HOk P w H s0.heap) (here : ∀ b, H b ≠ none → b = p) (off : H p ≠ none → K.lookup p = none)
    (hq : sp [.ref p] H (fun v _ => v = .bl true) fun _ _ _ => False) : codeAny (model P w) callerA (.call (.ref f) ⟨[.ref p], []⟩) (Told s0) s0 := by
  have keep : ∀ {b : Addr} {o : Obj}, s0.heap.get? b = some o → H b = none → (hidT s0.heap H).get? b = some o := fun e n => hidT_get e n
  have clean : ∀ {b : Addr} {o : Obj}, s0.heap.get? b = some o → (b = p → H p = none) → H b = none := fun {b o} _ h => by
    by_cases q : H b = none
    · exact q
    · have z := here b q
      rw [z] at q ⊢
      exact h z
  have nsH : ∀ {b : Addr} {m : Str → Option Value}, s0.heap.Ns b m → (hidT s0.heap H).Ns b m := by
    rintro b m ⟨o, es, ep, e, d, r⟩
    refine ⟨o, es, ep, keep e (clean e fun z => ?_), d, r⟩
    rw [z, hp] at e
    cases e
    cases (show Data.seq us.toArray _ = Data.dict es ep from d)
  have kinH : K.In (hidT s0.heap H) := fun b o e => keep (kin b o e) (clean (kin b o e) fun z => by
    by_cases q : H p = none
    · exact q
    · rw [z, off q] at e
      cases e)
  obtain ⟨ml, l1, l2⟩ := lim
  have md : Mod K mg (hidT s0.heap H) := ⟨kinH, nsH nsG, ⟨mb, nsH nsB, boot⟩, ml, nsH l1, l2⟩
  have ev : Env0 P w K mg (hidT s0.heap H) callerA [] s0 H :=
    { frames := rfl, mod := md, bs := fun b o e => of_hidT e, bsz := Nat.le_of_eq (hidT_size _ _), funs := trivial, frf := fun b hb => (List.not_mem_nil (show b ∈ ([] : List Addr) from hb)).elim, hok := ok, bare := .of_eq gens }
  have run := (F _ kinH (nsH nsG)).go callerA [] s0 H ⟨[.ref p], []⟩ [.ref p] [.ref p] _ _ clr0 room ev (bnd s0 (.ref p)) (.cons rfl .nil) hq
  refine codeAny_mono run ?_
  rintro (e | fl) s2 h
  · exact False.elim h
  · cases fl with
    | ret u =>
      obtain ⟨v, H2, os, bare, un, ok2, rel, tv⟩ := h
      obtain rfl : v = .bl true := tv
      obtain rfl : u = Value.bool true := rel
      refine ⟨rfl, OldK.of_keep fun b o e => ?_, os, bare⟩
      by_cases q : H b = none
      · exact un.keep b o e q (fun z => List.not_mem_nil (show b ∈ ([] : List Addr) from z)) (by simp)
      · rcases only b with z | ⟨ob, xs, z⟩
        · exact absurd z q
        · obtain ⟨e1, _⟩ := ok b _ z
          obtain ⟨e2, _⟩ := ok2 b _ (un.frzs b ob _ z)
          rw [← e, e1]
          exact e2
    | next => exact False.elim h
    | brk => exact False.elim h
    | cont => exact False.elim h
theorem call_law (kin : K.In s0.heap) (nsG : s0.heap.Ns mainGlobals mg) (nsB : s0.heap.Ns builtinsNs mb)
    (boot : ∀ y : Str, y ≠ "__name__" → mb y = bootBuiltins y) (lim : s0.heap.NoLimit) (gens : s0.gens = #[])
    (hp : s0.heap.get? p = some { cls := .type "list", data := .seq us.toArray }) (whole : IntsAre us zs) (len : zs.length ≤ sizeLine) (room : Room k callerA)
    (F : ∀ base : Heap, K.In base → base.Ns mainGlobals mg → FnG P w K mg base CX0 k f fd [x] sp) (bnd : ∀ (s : Shared) (u : Value), BindsTo s fd ⟨[u], []⟩ [(x, u)])
    (hq : ∀ H : Hp, Only H → SqL K H p (zs.map V.int) → sp [.ref p] H (fun v _ => v = .bl true) fun _ _ _ => False) : codeAny (model P w) callerA (.call (.ref f) ⟨[.ref p], []⟩) (Told s0) s0 := by
  have rel := vals_ints whole
  have lenU := whole.length
  cases own : K.lookup p with
  | none =>
    let o0 : Obj := { cls := .type "list", data := .seq us.toArray }
    let H0 : Hp := fun b => if b = p then some (.frz o0 (.lst (zs.map V.int))) else none
    have at0 : H0 p = some (.frz o0 (.lst (zs.map V.int))) := if_pos rfl
    have no0 : ∀ {b : Addr}, b ≠ p → H0 b = none := fun n => if_neg n
    have back : ∀ {b : Addr} {o : HO}, H0 b = some o → b = p ∧ o = .frz o0 (.lst (zs.map V.int)) := fun {b o} z => by
      by_cases q : b = p
      · subst q
        exact ⟨rfl, (Option.some.inj (at0.symm.trans z)).symm⟩
      · rw [no0 q] at z
        cases z
    have on0 : Only H0 := fun b => by
      by_cases q : b = p
      · subst q
        exact .inr ⟨_, _, at0⟩
      · exact .inl (no0 q)
    refine call_from H0 kin nsG nsB boot lim gens hp room F bnd on0 (fun b o z => ?_) (fun b z => ?_) (fun _ => own) (hq H0 on0 (.inl (.inr ⟨o0, at0⟩)))
    · obtain ⟨rfl, rfl⟩ := back z
      exact ⟨hp, by rw [List.length_map]; exact len, us, _, rel, hp⟩
    · by_cases q : b = p
      · exact q
      · exact absurd (no0 q) z
  | some o =>
    obtain rfl : o = _ := Option.some.inj ((kin p o own).symm.trans hp)
    have on1 : Only fun _ => none := fun _ => .inl rfl
    refine call_from (fun _ => none) kin nsG nsB boot lim gens hp room F bnd on1 (fun b o z => by cases (show (none : Option HO) = some o from z)) (fun b z => absurd rfl z) (fun z => absurd rfl z) (hq _ on1 ?_)
    exact .inr ⟨_, us.toArray, _, own, rfl, rfl, rfl, by rw [List.size_toArray, lenU]; exact len, by simpa using rel⟩
end
theorem walk_g {l : PySem.W.OpenLaw} {n k : Nat} {q : Program} {loose : List Str} {XP : (Str → Option Value) → Heap → Prop} {YP : World → Heap → Prop} {d : DefRec} {K : Params → PySem.W.Frag} {x : Str} {sp : PySem.W.Frag → Sp}
    (most : l.most = some n) (small : n ≤ sizeLine) (plain : d.params.defaults = []) (room : Room k callerA) (kin : ∀ (w : World) (h : Heap), YP w h → (K w.params).In h)
    (F : ∀ (w : World) (mg : Str → Option Value) (f : Addr) (h : Heap), (K w.params).In h → h.Ns mainGlobals mg → mg d.name = some (.ref f) →
      ∃ fd : FuncData, (∀ (s : Shared) (u : Value), BindsTo s fd ⟨[u], []⟩ [(x, u)]) ∧ ∀ base : Heap, (K w.params).In base → base.Ns mainGlobals mg → FnG l.prog w (K w.params) mg base CX0 k f fd [x] (sp (K w.params)))
    (hq : ∀ (K : PySem.W.Frag) (H : Hp) (a : Addr) (zs : List Int), zs.length ≤ n → SqL K H a (zs.map V.int) → sp K [.ref a] H (fun v _ => v = .bl true) fun _ _ _ => False) :
    PySem.W.WalkO q loose XP YP l.row.toRowW d [] (fun f vs => PySem.call f vs) := by
  refine Att.attach_call most plain ?_
  intro w s₀ s₁ mg mb f o pm cd doc a us zs G Y _ _ _ hf ha whole len gens
  obtain ⟨fd, b, hF⟩ := F w mg f _ (kin w _ Y) G.T.g hf
  exact call_law (kin w _ Y) G.T.g G.T.b G.T.builtins G.T.nolimit gens ha whole (Nat.le_trans len small) room hF b fun H _ hS => hq _ H a zs len hS
end GL

set_option Elab.async false
set_option linter.all false
set_option maxRecDepth 100000
set_option maxHeartbeats 4000000
namespace GL
open PySem PySem.Spec PyProof.Rows L2
/-! what the top has left, a def as one fact -/
structure Gf (K : PySem.W.Frag) (mg : Str → Option Value) (x : Str) (st : Stmt) : Prop where
  ex : ∃ f fd, mg x = some (.ref f) ∧ Fun K x x st f fd
structure Mf (K : PySem.W.Frag) (C : Addr) (m qual : Str) (st : Stmt) : Prop where
  ex : ∃ f fd, Meth K C m f ∧ Fun K m qual st f fd
section
variable {K : PySem.W.Frag} {mg : Str → Option Value} {h : Heap} {x m qual : Str} {st : Stmt} {f C : Addr} {oc kV doc pm cd ct : Value} {od an : Option Addr} {osl : Array (Option Value)}
theorem gf_mk (X : K.In h) (G : h.Ns mainGlobals mg) (a : PySem.W.nsIn K mainGlobals x = some (some (.ref f)))
    (l : K.lookup f = some ⟨oc, od, .func (PySem.W.fnOf x x (defArgs st) (defBody st) (defScope st) .none kV doc pm an cd ct), osl⟩) (c : PySem.W.codeIn K cd x = true) (k : PySem.W.keepIn K (.ref f) = true) : Gf K mg x st :=
  ⟨f, _, PySem.W.mg_of X G a, fun_mk l c k⟩
theorem mf_mk (a : PySem.W.findIn K (.ref C) m = some (some (.ref f))) (i : PySem.W.isFn K (.ref f) = true)
    (l : K.lookup f = some ⟨oc, od, .func (PySem.W.fnOf m qual (defArgs st) (defBody st) (defScope st) .none kV doc pm an cd ct), osl⟩) (c : PySem.W.codeIn K cd qual = true) (k : PySem.W.keepIn K (.ref f) = true) : Mf K C m qual st :=
  ⟨f, _, ⟨a, i, k⟩, fun_mk l c k⟩
end
section
variable {P : Program} {w : World} {K : PySem.W.Frag} {mg : Str → Option Value} {base : Heap} {k : Nat} {x m qual : Str} {ps : List Str} {sp : Sp} {st : Stmt} {C : Addr}
abbrev Binds0 (x qual : Str) (st : Stmt) (ps : List Str) : Prop := ∀ (kV doc pm : Value) (an : Option Addr) (cdv ct : Value) (us : List Value), us.length = ps.length →
  bindArgs (PySem.W.fnOf x qual (defArgs st) (defBody st) (defScope st) .none kV doc pm an cdv ct) ⟨us, []⟩ = pure (ps.zip us)
theorem Gf.has (g : Gf K mg x st) (b : Binds0 x x st ps) (F : ∀ f fd, Fun K x x st f fd → FnG P w K mg base CX0 k f fd ps sp) : Has P w K mg base x k ps sp := by
  obtain ⟨f, fd, a, u⟩ := g.ex
  exact ⟨f, fd, a, u.kp, F f fd u, kbPlace u b⟩
theorem Mf.has (g : Mf K C m qual st) (b : Binds0 m qual st ps) (F : ∀ f fd, Fun K m qual st f fd → FnG P w K mg base CX0 k f fd ps sp) : HasM P w K mg base C m k ps sp := by
  obtain ⟨f, fd, a, u⟩ := g.ex
  exact ⟨f, fd, a, F f fd u, kbPlace u b⟩
/-- a def with defaults: what a call binds -/
theorem kbDef {params : Arguments} {body : List Stmt} {scope : Scope} {dvs : List V} {f : Addr} {fd : FuncData} (F : FunD K x qual params body scope dvs [] f fd) (n : Nat) (ks : List Str) (g : {α : Type} → List α → List α → List α → List α) (hd : dvs ≠ [])
    (hrel : ∀ {vs ds zs : List V} {us its ws : List Value}, Vals vs us → Vals ds its → Vals zs ws → Vals (g vs ds zs) (g us its ws))
    (b : ∀ (T : Addr) (kV doc pm : Value) (an : Option Addr) (cdv ct : Value) (us its ws : List Value), us.length = n → its.length = dvs.length → ws.length = ks.length →
      ∃ r, bindArgs (PySem.W.fnOf x qual params body scope (.ref T) kV doc pm an cdv ct) ⟨us, ks.zip ws⟩ = seqItems? (.ref T) >>= r ∧ r (some its.toArray) = pure (ps.zip (g us its ws))) :
    ∃ g1, KBn K fd ps n ks g1 (fun vs zs => g vs dvs zs) := by
  obtain ⟨oc, od, dV, kV, doc, pm, an, cdv, ct, osl, rfl, lk, hcd, hD, _⟩ := F.ex
  rcases hD with ⟨e, _⟩ | ⟨_, T, o, its, q, rfl, lT, oT, rT⟩
  · exact absurd e hd
  · refine ⟨fun us ws => g us its ws, fun s us ws X l1 l2 => ?_, fun r1 r2 => hrel r1 rT r2⟩
    obtain ⟨r, e1, e2⟩ := b T kV doc pm an cdv ct us its ws l1 rT.length.symm l2
    refine BindsTo.of_looks fun M => ?_
    rw [e1]
    exact looks_items X lT oT (.of_pure e2)
end
end GL
namespace GL
open PySem PySem.Spec PyProof.Rows L2
/-- a property as one fact -/
structure Pf (K : PySem.W.Frag) (C : Addr) (m qual : Str) (st : Stmt) : Prop where
  ex : ∃ p g fd, PropOf K C m p g ∧ Fun K m qual st g fd
end GL
namespace KM
open PySem PySem.Spec PyProof.Rows L2 GL
section
variable {P : Program} {w : World} {K : PySem.W.Frag} {mg : Str → Option Value} {C D R N T0 : Addr}
theorem all_ok {fa : Addr} (hfa : mg "law" = some (.ref fa)) (B : Bi mg) (Z : Bz mg) (W : Wd K mg) (F4 : Cf K mg C) (CH : Ch K mg D) (RC : Rc K mg R) (RN : Rk K R) (NM : NoMv K mg N) (AC : AddC K C) (init : ∃ f fd, Mk K C f ∧ FunD K "__init__" "Moves.__init__" (defArgs (mth 0)) (defBody (mth 0)) (defScope (mth 0)) [.ref T0] [] f fd)
    (initD : ∃ f fd, Mk K D f ∧ Fun K "__init__" "Chains.__init__" (chm 0) f fd) (initR : ∃ f fd, Mk K R f ∧ FunD K "__init__" "Ratio.__init__" (defArgs (rm 0)) (defBody (rm 0)) (defScope (rm 0)) [.int 1] [] f fd)
    (pt : Pf K R "top" "Ratio.top" (rm 1)) (pb : Pf K R "bottom" "Ratio.bottom" (rm 2)) (sf : PySem.W.selfFirst K R = true)
    (below : Below K C) (eqc : ∃ f N, EqC K C f N ∧ PySem.W.findIn K (.ref C) "__eq__" = some (some (.ref f)))
    (g22 : Gf K mg "is_integer" sInt)
    (g23 : Gf K mg "is_count" sCnt)
    (g24 : Gf K mg "is_name" sNm)
    (g25 : Gf K mg "is_good" sGd)
    (g26 : Gf K mg "is_list" sLs)
    (g27 : Gf K mg "is_among" sAmo)
    (g28 : Gf K mg "is_keyed_among" sKa)
    (g29 : Gf K mg "is_triple" sTr)
    (g31 : Gf K mg "is_number" sNu)
    (g32 : Gf K mg "ratio_of" sRo)
    (g37 : Gf K mg "are_of_just" sAj)
    (g41 : Gf K mg "_is_one_of" sEn)
    (g42 : Gf K mg "_is_condition" sCo)
    (g43 : Gf K mg "_check_goods" sCg)
    (g44 : Gf K mg "_check_conditions" sCc)
    (g46 : Gf K mg "chains_of" sCof)
    (g47 : Gf K mg "positions_broken" sPb)
    (g48 : Gf K mg "is_move" sIsm)
    (g49 : Gf K mg "is_ring" sIr)
    (g50 : Gf K mg "broken" sBrk)
    (g51 : Gf K mg "some_move" sSmv)
    (g52 : Gf K mg "ring" sRng)
    (g53 : Gf K mg "_chains_for" sCfr)
    (g54 : Gf K mg "tightest" sTgt)
    (g55 : Gf K mg "chain" sChn)
    (g57 : Gf K mg "_law_pot" sPot)
    (g58 : Gf K mg "_law_draw" sDraw)
    (g59 : Gf K mg "_law_pick" sPick)
    (g60 : Gf K mg "_law_scene" sScene)
    (g61 : Gf K mg "_law_tight" sTt)
    (g62 : Gf K mg "_law_has_ring" sHg)
    (g63 : Gf K mg "_law_keeps" sKp)
    (g64 : Gf K mg "_law_chains" sCs)
    (g65 : Gf K mg "_law_sum" sSl)
    (g66 : Gf K mg "_law_first" sFf)
    (g67 : Gf K mg "_law_ring_due" sRd)
    (g68 : Gf K mg "_law_move_right" sMr)
    (g69 : Gf K mg "_law_ring_right" sRr)
    (g70 : Gf K mg "_law_broken_right" sBr)
    (g71 : Gf K mg "_law_lists_right" sLr)
    (g72 : Gf K mg "_law_bounds_right" sBd)
    (g73 : Gf K mg "_law_no_move" sNmv)
    (g74 : Gf K mg "_law_known_right" sKr)
    (g75 : Gf K mg "_law_near_right" sNr)
    (g76 : Gf K mg "_law_right" sRt)
    (g77 : Gf K mg "law" sLaw)
    (m101 : Mf K C "goods" "Moves.goods" (mth 1))
    (m102 : Mf K C "conditions" "Moves.conditions" (mth 2))
    (m106 : Mf K C "__add__" "Moves.__add__" (mth 6))
    (m108 : Mf K C "__eq__" "Moves.__eq__" (mth 8))
    (m109 : Mf K C "__repr__" "Moves.__repr__" (mth 9))
    (m201 : Mf K D "_longer" "Chains._longer" (chm 1))
    (m202 : Mf K D "has_ring" "Chains.has_ring" (chm 2))
    (m203 : Mf K D "ring" "Chains.ring" (chm 3))
    (m204 : Mf K D "tightest" "Chains.tightest" (chm 4))
    (m205 : Mf K D "chain" "Chains.chain" (chm 5))
    (m206 : Mf K D "_least_list" "Chains._least_list" (chm 6))
    (m207 : Mf K D "move" "Chains.move" (chm 7))
    (m309 : Mf K R "is_at_most" "Ratio.is_at_most" (rm 9))
    (m312 : Mf K R "__sub__" "Ratio.__sub__" (rm 12))
    (m319 : Mf K R "__repr__" "Ratio.__repr__" (rm 19)) :
    ∃ fd : FuncData, (∀ (s : Shared) (u : Value), BindsTo s fd ⟨[u], []⟩ [("_law_script", u)]) ∧ ∀ base : Heap, K.In base → base.Ns mainGlobals mg → FnG P w K mg base CX0 11 fa fd ["_law_script"] (spLaw K) := by
  obtain ⟨fL, fdL, aL, uL⟩ := g77.ex
  obtain rfl : fL = fa := by
    rw [aL] at hfa
    cases hfa
    rfl
  have bL : ∀ (s : Shared) (u : Value), BindsTo s fdL ⟨[u], []⟩ [("_law_script", u)] := by
    obtain ⟨oc, od, kV, doc, pm, an, cdv, ct, osl, rfl, lk, hcd⟩ := uL.ex
    exact fun s u => .of_eq rfl
  refine ⟨fdL, bL, fun base _ _ => ?_⟩
  have h22 : Has P w K mg base "is_integer" 1 ["value"] (spInt) := g22.has (fun _ _ _ _ _ _ us hl => match us, hl with | [_], _ => rfl) fun f fd F => ok_int F B
  have h22Q : Has P w K mg base "is_integer" 1 ["value"] (spIntQ R) := g22.has (fun _ _ _ _ _ _ us hl => match us, hl with | [_], _ => rfl) fun f fd F => ok_intQ F B RC
  have h22A : Has P w K mg base "is_integer" 1 ["value"] (spIntA) := g22.has (fun _ _ _ _ _ _ us hl => match us, hl with | [_], _ => rfl) fun f fd F => ok_intA F B
  have h23A : Has P w K mg base "is_count" 2 ["value"] (spCntA) := g23.has (fun _ _ _ _ _ _ us hl => match us, hl with | [_], _ => rfl) fun f fd F => ok_cntA F h22A
  have h24 : Has P w K mg base "is_name" 1 ["value"] (spNm) := g24.has (fun _ _ _ _ _ _ us hl => match us, hl with | [_], _ => rfl) fun f fd F => ok_name F B W
  have h25 : Has P w K mg base "is_good" 2 ["value"] (spNm) := g25.has (fun _ _ _ _ _ _ us hl => match us, hl with | [_], _ => rfl) fun f fd F => ok_good F W h24
  have h26 : Has P w K mg base "is_list" 1 ["value"] (spLs K) := g26.has (fun _ _ _ _ _ _ us hl => match us, hl with | [_], _ => rfl) fun f fd F => ok_list F B
  have h26A : Has P w K mg base "is_list" 1 ["value"] (spLsA) := g26.has (fun _ _ _ _ _ _ us hl => match us, hl with | [_], _ => rfl) fun f fd F => ok_lsA F B
  have h29 : Has P w K mg base "is_triple" 1 ["value"] (spTr) := g29.has (fun _ _ _ _ _ _ us hl => match us, hl with | [_], _ => rfl) fun f fd F => ok_triple F B
  have h27 : Has P w K mg base "is_among" 1 ["names", "value"] (spAmo K) := g27.has (fun _ _ _ _ _ _ us hl => match us, hl with | [_, _], _ => rfl) fun f fd F => ok_am F B
  have h41 : Has P w K mg base "_is_one_of" 2 ["goods", "value"] (spEn K) := g41.has (fun _ _ _ _ _ _ us hl => match us, hl with | [_, _], _ => rfl) fun f fd F => ok_end F h27
  have h42 : Has P w K mg base "_is_condition" 3 ["goods", "value"] (spCo K) := g42.has (fun _ _ _ _ _ _ us hl => match us, hl with | [_, _], _ => rfl) fun f fd F => ok_cond F h29 h41 h22
  have h43 : Has P w K mg base "_check_goods" 3 ["goods"] (spCg K) := g43.has (fun _ _ _ _ _ _ us hl => match us, hl with | [_], _ => rfl) fun f fd F => ok_cg F B h26 h25
  have h44 : Has P w K mg base "_check_conditions" 4 ["goods", "conditions"] (spCc K) := g44.has (fun _ _ _ _ _ _ us hl => match us, hl with | [_, _], _ => rfl) fun f fd F => ok_cc F B h26 h42
  obtain ⟨fI, fdI, mk, uI⟩ := init
  have FI : FnG P w K mg base CX0 6 fI fdI ["self", "goods", "conditions"] (spInit K C) := (ok_init uI B F4 h43 h44).up (by decide)
  have c2 : HasC P w K mg base C 6 ["self", "goods", "conditions"] (spInit K C) 2 [] (fun vs _ => vs) := by
    obtain ⟨g1, b⟩ := kbDef (ps := ["self", "goods", "conditions"]) uI 3 [] (fun vs _ _ => vs) (by simp) (fun r _ _ => r) fun T kV doc pm an cdv ct us its ws l1 l2 l3 => match us, its, ws, l1, l2, l3 with | [_, _, _], [_], [], _, _, _ => ⟨_, rfl, rfl⟩
    exact ⟨fI, fdI, g1, mk, FI, b⟩
  have M : Mv P w K mg base C :=
    { gM := F4.gM, cl := F4.cl, mk2 := c2
      goods := m101.has (fun _ _ _ _ _ _ us hl => match us, hl with | [_], _ => rfl) fun f fd F => ok_goods F B F4
      conds := m102.has (fun _ _ _ _ _ _ us hl => match us, hl with | [_], _ => rfl) fun f fd F => ok_conds F B F4
      repr := m109.has (fun _ _ _ _ _ _ us hl => match us, hl with | [_], _ => rfl) fun f fd F => ok_repr F B F4
      eq := m108.has (fun _ _ _ _ _ _ us hl => match us, hl with | [_, _], _ => rfl) fun f fd F => KM.ok_eq F B F4
      below := below, eqc := eqc }
  have MP : MvP P w K mg base C := ⟨m106.has (fun _ _ _ _ _ _ us hl => match us, hl with | [_, _], _ => rfl) fun f fd F => ok_add F B F4 h42 c2, AC⟩
  have h201 : HasM P w K mg base D "_longer" 1 ["self", "sums"] (spLg P w D) := m201.has (fun _ _ _ _ _ _ us hl => match us, hl with | [_, _], _ => rfl) fun f fd F => ok_longer F B CH
  have h206 : HasM P w K mg base D "_least_list" 1 ["self", "ends", "many", "most_sum"] (spLl P w D) := m206.has (fun _ _ _ _ _ _ us hl => match us, hl with | [_, _, _, _], _ => rfl) fun f fd F => ok_ll F B CH
  have h206b : HasM P w K mg base D "_least_list" 1 ["self", "ends", "many", "most_sum"] (spLl2 P w D) := m206.has (fun _ _ _ _ _ _ us hl => match us, hl with | [_, _, _, _], _ => rfl) fun f fd F => ok_ll2 F B CH
  have h203 : HasM P w K mg base D "ring" 2 ["self"] (spRg P w D) := m203.has (fun _ _ _ _ _ _ us hl => match us, hl with | [_], _ => rfl) fun f fd F => ok_ring F B CH h206
  have h203b : HasM P w K mg base D "ring" 2 ["self"] (spRg2 P w D) := m203.has (fun _ _ _ _ _ _ us hl => match us, hl with | [_], _ => rfl) fun f fd F => ok_ring2 F B CH h206b
  have h204 : HasM P w K mg base D "tightest" 1 ["self", "first", "second"] (spTi P w D) := m204.has (fun _ _ _ _ _ _ us hl => match us, hl with | [_, _, _], _ => rfl) fun f fd F => ok_tightest F B CH
  obtain ⟨fJ, fdJ, mkJ, uJ⟩ := initD
  have V0 : Hv2 P w K mg base D :=
    { gC := CH.gC, cl := CH.cl, made := ⟨fJ, fdJ, _, mkJ, ok_chinit uJ B CH h201, kbPlace uJ (fun _ _ _ _ _ _ us hl => match us, hl with | [_, _, _], _ => rfl)⟩
      has := m202.has (fun _ _ _ _ _ _ us hl => match us, hl with | [_], _ => rfl) fun f fd F => ok_hasring F B CH h203
      ring := h203b
      ti := h204
      cn := m205.has (fun _ _ _ _ _ _ us hl => match us, hl with | [_, _, _], _ => rfl) fun f fd F => ok_chain F B CH h204 h206b
      mv := m207.has (fun _ _ _ _ _ _ us hl => match us, hl with | [_], _ => rfl) fun f fd F => ok_move F B CH }
  obtain ⟨fR, fdR, mkR, uR⟩ := initR
  have FR : FnG P w K mg base CX0 2 fR fdR ["self", "top", "bottom"] (spQi R) := ok_qinit uR B RC h22
  have r1 : HasC P w K mg base R 2 ["self", "top", "bottom"] (spQi R) 1 [] (fun vs _ => vs ++ [.int 1]) := by
    obtain ⟨g1, b⟩ := kbDef (ps := ["self", "top", "bottom"]) uR 2 [] (fun vs ds _ => vs ++ ds) (by simp) (fun r rd _ => r.append rd) fun T kV doc pm an cdv ct us its ws l1 l2 l3 => match us, its, ws, l1, l2, l3 with | [_, _], [_], [], _, _, _ => ⟨_, rfl, rfl⟩
    exact ⟨fR, fdR, g1, mkR, FR, b⟩
  have r2 : HasC P w K mg base R 2 ["self", "top", "bottom"] (spQi R) 2 [] (fun vs _ => vs) := by
    obtain ⟨g1, b⟩ := kbDef (ps := ["self", "top", "bottom"]) uR 3 [] (fun vs _ _ => vs) (by simp) (fun r _ _ => r) fun T kV doc pm an cdv ct us its ws l1 l2 l3 => match us, its, ws, l1, l2, l3 with | [_, _, _], [_], [], _, _, _ => ⟨_, rfl, rfl⟩
    exact ⟨fR, fdR, g1, mkR, FR, b⟩
  have prop : ∀ {m fld : Str} {qual : Str} {st : Stmt}, Pf K R m qual st → FnScope ["self"] ["self"] (defScope st) → (∃ p1 p2 p3, defBody st = [.Return (some (.Attribute (.Name "self" p1) fld p2)) p3]) → NoAttr K R fld → (∀ (kV doc pm : Value) (an : Option Addr) (cdv ct : Value) (us : List Value), us.length = (["self"] : List Str).length → bindArgs (PySem.W.fnOf m qual (defArgs st) (defBody st) (defScope st) .none kV doc pm an cdv ct) ⟨us, []⟩ = pure ((["self"] : List Str).zip us)) → HasP P w K mg base R m fld := by
    intro m fld qual st pf sc hb na bd
    obtain ⟨p, g, fd, hp, u⟩ := pf.ex
    obtain ⟨oc, od, kV, doc, pm, an, cdv, ct, osl, rfl, lk, hcd⟩ := u.ex
    obtain ⟨p1, p2, p3, hb⟩ := hb
    refine ⟨p, g, _, hp, fn_getter lk hcd sc rfl hb RC.cl na, fun s us _ l => ?_⟩
    rw [List.append_nil] at l ⊢
    exact .of_eq (bd kV doc pm an cdv ct us l)
  have pT : HasP P w K mg base R "top" "_top" := prop pt ⟨rfl, rfl, rfl, by decide +kernel, rfl, by decide +kernel, by decide +kernel⟩ ⟨_, _, _, rfl⟩ RC.nT (fun _ _ _ _ _ _ us hl => match us, hl with | [_], _ => rfl)
  have pB : HasP P w K mg base R "bottom" "_bottom" := prop pb ⟨rfl, rfl, rfl, by decide +kernel, rfl, by decide +kernel, by decide +kernel⟩ ⟨_, _, _, rfl⟩ RC.nB (fun _ _ _ _ _ _ us hl => match us, hl with | [_], _ => rfl)
  have h31 : Has P w K mg base "is_number" 2 ["value"] (spNuQ R) := g31.has (fun _ _ _ _ _ _ us hl => match us, hl with | [_], _ => rfl) fun f fd F => ok_numQ F B RC h22Q
  have h31A : Has P w K mg base "is_number" 2 ["value"] (spNuA) := g31.has (fun _ _ _ _ _ _ us hl => match us, hl with | [_], _ => rfl) fun f fd F => ok_numA F B RC RN h22A
  have h32 : Has P w K mg base "ratio_of" 4 ["value"] (spQo R) := g32.has (fun _ _ _ _ _ _ us hl => match us, hl with | [_], _ => rfl) fun f fd F => ok_ratio_ofQ F B RC r1
  have h28 : Has P w K mg base "is_keyed_among" 2 ["names", "value"] (spJ2 R) := g28.has (fun _ _ _ _ _ _ us hl => match us, hl with | [_, _], _ => rfl) fun f fd F => ok_keyed2 F B h27
  have h28A : Has P w K mg base "is_keyed_among" 2 ["names", "value"] (spKaA) := g28.has (fun _ _ _ _ _ _ us hl => match us, hl with | [_, _], _ => rfl) fun f fd F => ok_keyedA F B h27
  have h37 : Has P w K mg base "are_of_just" 3 ["names", "value"] (spJ2 R) := g37.has (fun _ _ _ _ _ _ us hl => match us, hl with | [_, _], _ => rfl) fun f fd F => ok_just2 F B h28 h31
  have h37A : Has P w K mg base "are_of_just" 3 ["names", "value"] (spJA) := g37.has (fun _ _ _ _ _ _ us hl => match us, hl with | [_, _], _ => rfl) fun f fd F => ok_justA F B h28A h31A
  have h309 : HasM P w K mg base R "is_at_most" 5 ["self", "other"] (spQm R) := m309.has (fun _ _ _ _ _ _ us hl => match us, hl with | [_, _], _ => rfl) fun f fd F => ok_atmostQ F B RC h32 pT pB
  have h312 : HasM P w K mg base R "__sub__" 5 ["self", "other"] (spQa R fun p q => p - q) := m312.has (fun _ _ _ _ _ _ us hl => match us, hl with | [_, _], _ => rfl) fun f fd F => ok_qsub F B RC h32 pT pB r2
  have hRR : HasR P w K mg base R 1 (spQr R) := by
    obtain ⟨f, fd, a, u⟩ := m319.ex
    exact ⟨f, fd, ok_qrepr u B RC, kbPlace u (fun _ _ _ _ _ _ us hl => match us, hl with | [_], _ => rfl), a.at_, a.fn⟩
  have h47 : Has P w K mg base "positions_broken" 6 ["moves", "changes"] (spPb2 C R) := g47.has (fun _ _ _ _ _ _ us hl => match us, hl with | [_, _], _ => rfl) fun f fd F => ok_broken2 F B M RC h32 r1 h312 h309 sf
  have h48 : Has P w K mg base "is_move" 7 ["moves", "value"] (spIsm2 C R) := g48.has (fun _ _ _ _ _ _ us hl => match us, hl with | [_, _], _ => rfl) fun f fd F => ok_ismove2 F B M h37 h47
  have h48A : Has P w K mg base "is_move" 7 ["moves", "value"] (spIsmA C) := g48.has (fun _ _ _ _ _ _ us hl => match us, hl with | [_, _], _ => rfl) fun f fd F => ok_ismoveA F B M h37A h47
  have k48 : HasK P w K mg base "is_move" 7 ["moves", "value"] (spIsm2 C R) ["value", "moves"] (fun _ zs => zs.reverse) := by
    obtain ⟨f, fd, a, F⟩ := g48.ex
    exact ⟨f, fd, _, a, F.kp, ok_ismove2 F B M h37 h47, kbNames F 0 ["value", "moves"] (fun _ zs => zs.reverse) (fun _ rz => rz.reverse) fun _ _ _ _ _ _ us ws l1 l2 => match us, ws, l1, l2 with | [], [_, _], _, _ => rfl⟩
  have h49 : Has P w K mg base "is_ring" 3 ["moves", "value"] (spIr C) := g49.has (fun _ _ _ _ _ _ us hl => match us, hl with | [_, _], _ => rfl) fun f fd F => ok_isring F B Z M h26A h23A
  have k49 : HasK P w K mg base "is_ring" 3 ["moves", "value"] (spIr C) ["value", "moves"] (fun _ zs => zs.reverse) := by
    obtain ⟨f, fd, a, F⟩ := g49.ex
    exact ⟨f, fd, _, a, F.kp, ok_isring F B Z M h26A h23A, kbNames F 0 ["value", "moves"] (fun _ zs => zs.reverse) (fun _ rz => rz.reverse) fun _ _ _ _ _ _ us ws l1 l2 => match us, ws, l1, l2 with | [], [_, _], _, _ => rfl⟩
  have h50 : Has P w K mg base "broken" 7 ["moves", "move"] (spPb2 C R) := g50.has (fun _ _ _ _ _ _ us hl => match us, hl with | [_, _], _ => rfl) fun f fd F => ok_brk F B M h37 h47
  have k50 : HasK P w K mg base "broken" 7 ["moves", "move"] (spPb2 C R) ["move", "moves"] (fun _ zs => zs.reverse) := by
    obtain ⟨f, fd, a, F⟩ := g50.ex
    exact ⟨f, fd, _, a, F.kp, ok_brk F B M h37 h47, kbNames F 0 ["move", "moves"] (fun _ zs => zs.reverse) (fun _ rz => rz.reverse) fun _ _ _ _ _ _ us ws l1 l2 => match us, ws, l1, l2 with | [], [_, _], _, _ => rfl⟩
  have h46 : Has P w K mg base "chains_of" 4 ["moves"] (spCof P w C D) := g46.has (fun _ _ _ _ _ _ us hl => match us, hl with | [_], _ => rfl) fun f fd F => ok_cof F B M V0
  have h51 : Has P w K mg base "some_move" 5 ["moves"] (spSmv C) := g51.has (fun _ _ _ _ _ _ us hl => match us, hl with | [_], _ => rfl) fun f fd F => ok_smv F B V0 h46
  have k51 : HasK P w K mg base "some_move" 5 ["moves"] (spSmv C) ["moves"] (fun _ zs => zs) := by
    obtain ⟨f, fd, a, F⟩ := g51.ex
    exact ⟨f, fd, _, a, F.kp, ok_smv F B V0 h46, kbNames F 0 ["moves"] (fun _ zs => zs) (fun _ rz => rz) fun _ _ _ _ _ _ us ws l1 l2 => match us, ws, l1, l2 with | [], [_], _, _ => rfl⟩
  have h52 : Has P w K mg base "ring" 5 ["moves"] (spRng C) := g52.has (fun _ _ _ _ _ _ us hl => match us, hl with | [_], _ => rfl) fun f fd F => ok_rng F B V0 h46
  have k52 : HasK P w K mg base "ring" 5 ["moves"] (spRng C) ["moves"] (fun _ zs => zs) := by
    obtain ⟨f, fd, a, F⟩ := g52.ex
    exact ⟨f, fd, _, a, F.kp, ok_rng F B V0 h46, kbNames F 0 ["moves"] (fun _ zs => zs) (fun _ rz => rz) fun _ _ _ _ _ _ us ws l1 l2 => match us, ws, l1, l2 with | [], [_], _, _ => rfl⟩
  have h53 : Has P w K mg base "_chains_for" 5 ["moves", "first", "second"] (spCfr P w C D) := g53.has (fun _ _ _ _ _ _ us hl => match us, hl with | [_, _, _], _ => rfl) fun f fd F => ok_cfr F B M V0 h46 h41
  have h54 : Has P w K mg base "tightest" 6 ["moves", "first", "second"] (spTgt C) := g54.has (fun _ _ _ _ _ _ us hl => match us, hl with | [_, _, _], _ => rfl) fun f fd F => ok_tgt F B V0 h53
  have k54 : HasK P w K mg base "tightest" 6 ["moves", "first", "second"] (spTgt C) ["second", "first", "moves"] (fun _ zs => zs.reverse) := by
    obtain ⟨f, fd, a, F⟩ := g54.ex
    exact ⟨f, fd, _, a, F.kp, ok_tgt F B V0 h53, kbNames F 0 ["second", "first", "moves"] (fun _ zs => zs.reverse) (fun _ rz => rz.reverse) fun _ _ _ _ _ _ us ws l1 l2 => match us, ws, l1, l2 with | [], [_, _, _], _, _ => rfl⟩
  have h55 : Has P w K mg base "chain" 6 ["moves", "first", "second"] (spChn C) := g55.has (fun _ _ _ _ _ _ us hl => match us, hl with | [_, _, _], _ => rfl) fun f fd F => ok_chn F B V0 h53
  have k55 : HasK P w K mg base "chain" 6 ["moves", "first", "second"] (spChn C) ["second", "first", "moves"] (fun _ zs => zs.reverse) := by
    obtain ⟨f, fd, a, F⟩ := g55.ex
    exact ⟨f, fd, _, a, F.kp, ok_chn F B V0 h53, kbNames F 0 ["second", "first", "moves"] (fun _ zs => zs.reverse) (fun _ rz => rz.reverse) fun _ _ _ _ _ _ us ws l1 l2 => match us, ws, l1, l2 with | [], [_, _, _], _, _ => rfl⟩
  obtain ⟨fx53, x53⟩ : ∃ f, HasX P w K mg base "_chains_for" 5 ["moves", "first", "second"] (spNo C N) f := by
    obtain ⟨f, fd, a, F⟩ := g53.ex
    exact ⟨f, fd, a, F.kp, ok_cfrX F B NM M V0 h46 h41, kbPlace F (fun _ _ _ _ _ _ us hl => match us, hl with | [_, _, _], _ => rfl)⟩
  obtain ⟨fx54, x54⟩ : ∃ f, HasX P w K mg base "tightest" 6 ["moves", "first", "second"] (spNo C N) f := by
    obtain ⟨f, fd, a, F⟩ := g54.ex
    exact ⟨f, fd, a, F.kp, ok_tgtX F B V0 x53, kbPlace F (fun _ _ _ _ _ _ us hl => match us, hl with | [_, _, _], _ => rfl)⟩
  obtain ⟨fx55, x55⟩ : ∃ f, HasX P w K mg base "chain" 6 ["moves", "first", "second"] (spNo C N) f := by
    obtain ⟨f, fd, a, F⟩ := g55.ex
    exact ⟨f, fd, a, F.kp, ok_chnX F B V0 x53, kbPlace F (fun _ _ _ _ _ _ us hl => match us, hl with | [_, _, _], _ => rfl)⟩
  have h57 : Has P w K mg base "_law_pot" 1 ["_law_script", "_law_k"] (spPot K) := g57.has (fun _ _ _ _ _ _ us hl => match us, hl with | [_, _], _ => rfl) fun f fd F => ok_pot F B
  have h58 : Has P w K mg base "_law_draw" 1 ["_law_pot_here", "_law_many"] (spDraw) := g58.has (fun _ _ _ _ _ _ us hl => match us, hl with | [_, _], _ => rfl) fun f fd F => ok_draw F B
  have h59 : Has P w K mg base "_law_pick" 2 ["_law_pot_here", "_law_some"] (spPick K) := g59.has (fun _ _ _ _ _ _ us hl => match us, hl with | [_, _], _ => rfl) fun f fd F => ok_pick F B h58
  have h60 : Has P w K mg base "_law_scene" 3 ["_law_pot_here", "_law_most"] (spScene) := g60.has (fun _ _ _ _ _ _ us hl => match us, hl with | [_, _], _ => rfl) fun f fd F => ok_scene F B h58 h59
  have h61 : Has P w K mg base "_law_tight" 1 ["_law_goods", "_law_rows"] (spTt P w) := g61.has (fun _ _ _ _ _ _ us hl => match us, hl with | [_, _], _ => rfl) fun f fd F => ok_tight F B
  have h62 : Has P w K mg base "_law_has_ring" 2 ["_law_goods", "_law_rows"] (spHg) := g62.has (fun _ _ _ _ _ _ us hl => match us, hl with | [_, _], _ => rfl) fun f fd F => ok_hasr F B h61
  have h63 : Has P w K mg base "_law_keeps" 1 ["_law_rows", "_law_changes"] (spKp) := g63.has (fun _ _ _ _ _ _ us hl => match us, hl with | [_, _], _ => rfl) fun f fd F => ok_keeps F B
  have h64 : Has P w K mg base "_law_chains" 1 ["_law_rows", "_law_most"] (spCs) := g64.has (fun _ _ _ _ _ _ us hl => match us, hl with | [_, _], _ => rfl) fun f fd F => ok_chains F B
  have h65 : Has P w K mg base "_law_sum" 1 ["_law_rows", "_law_some"] (spSl K) := g65.has (fun _ _ _ _ _ _ us hl => match us, hl with | [_, _], _ => rfl) fun f fd F => ok_suml F B
  have h66 : Has P w K mg base "_law_first" 1 ["_law_some"] (spFf) := g66.has (fun _ _ _ _ _ _ us hl => match us, hl with | [_], _ => rfl) fun f fd F => ok_first F B
  have h67 : Has P w K mg base "_law_ring_due" 2 ["_law_rows", "_law_chains_here"] (spRd) := g67.has (fun _ _ _ _ _ _ us hl => match us, hl with | [_, _], _ => rfl) fun f fd F => ok_ringdue F B h65 h66
  have h68 : Has P w K mg base "_law_move_right" 8 ["_law_moves", "_law_goods", "_law_rows"] (spMr C) := g68.has (fun _ _ _ _ _ _ us hl => match us, hl with | [_, _, _], _ => rfl) fun f fd F => ok_moveright F B h51 k51 h63 h48 h50 h52
  have h69 : Has P w K mg base "_law_ring_right" 6 ["_law_moves", "_law_rows", "_law_due"] (spRR C) := g69.has (fun _ _ _ _ _ _ us hl => match us, hl with | [_, _, _], _ => rfl) fun f fd F => ok_ringright F B h52 k52 h51 h49
  have h70 : Has P w K mg base "_law_broken_right" 8 ["_law_pot_here", "_law_moves", "_law_goods", "_law_rows"] (spBr C) := g70.has (fun _ _ _ _ _ _ us hl => match us, hl with | [_, _, _, _], _ => rfl) fun f fd F => ok_brokenright F B RC h58 h59 r2 hRR h50 k50 k48 h48A
  have h71 : Has P w K mg base "_law_lists_right" 4 ["_law_pot_here", "_law_moves", "_law_rows", "_law_chains_here"] (spLr C) := g71.has (fun _ _ _ _ _ _ us hl => match us, hl with | [_, _, _, _], _ => rfl) fun f fd F => ok_listsright F B Z h58 h59 h65 h49 k49
  have h72 : Has P w K mg base "_law_bounds_right" 7 ["_law_moves", "_law_goods", "_law_rows", "_law_chains_here"] (spBd C) := g72.has (fun _ _ _ _ _ _ us hl => match us, hl with | [_, _, _, _], _ => rfl) fun f fd F => ok_boundsright F B h61 h65 h66 h54 k54 h55 k55
  have h73 : Has P w K mg base "_law_no_move" 7 ["_law_moves", "_law_goods"] (spNmv C) := g73.has (fun _ _ _ _ _ _ us hl => match us, hl with | [_, _], _ => rfl) fun f fd F => ok_nomove F B NM x54 x55
  have h75 : Has P w K mg base "_law_near_right" 8 [] spNr := g75.has (fun _ _ _ _ _ _ us hl => match us, hl with | [], _ => rfl) fun f fd F => ok_nearright F B M RC r2 h50 h48
  have h74 : Has P w K mg base "_law_known_right" 9 ["_law_pot_here"] (spKr) := g74.has (fun _ _ _ _ _ _ us hl => match us, hl with | [_], _ => rfl) fun f fd F => ok_knownright F B M MP h58 h59 h55 h54 h52 h51 h49 h75
  have h76 : Has P w K mg base "_law_right" 10 ["_law_pot_here"] (spRight) := g76.has (fun _ _ _ _ _ _ us hl => match us, hl with | [_], _ => rfl) fun f fd F => ok_right F B M h60 h64 h67 h62 h68 h72 h69 h73 h70 h71 h74
  exact ok_law uL B h57 h76
end
end KM

set_option Elab.async false
set_option linter.all false
set_option maxRecDepth 100000
set_option maxHeartbeats 4000000
namespace GL
open PySem PySem.Spec PyProof.Rows L2
section
variable {K : PySem.W.Frag} {h : Heap} {mg : Str → Option Value} {x c m qual : Str} {st : Stmt} {es : List (PySem.W.Frag → Bool)} {fs : List DfA}
theorem SaysM.gf (s : SaysM es fs K) (X : K.In h) (G : h.Ns mainGlobals mg) (i : Nat) (e : fs[i]? = some (dG x st)) : Gf K mg x st := by
  obtain ⟨a, _, fd, F⟩ := s.def_ i e
  exact ⟨_, fd, He.glo_ok X G a, fun_of F⟩
theorem SaysM.mf (s : SaysM es fs K) (i : Nat) (e : fs[i]? = some (dM c m qual st fun _ => [])) : Mf K (He.ga K c) m qual st := by
  obtain ⟨a, b, fd, F⟩ := s.def_ i e
  exact ⟨_, fd, ⟨He.eqO_ok a, b, F.kp⟩, fun_of F⟩
theorem SaysM.pf (s : SaysM es fs K) (i : Nat) (e : fs[i]? = some (dP c m qual st)) : Pf K (He.ga K c) m qual st := by
  obtain ⟨a, b, fd, F⟩ := s.def_ i e
  obtain ⟨a1, a⟩ := He.ba a
  obtain ⟨a2, a⟩ := He.ba a
  obtain ⟨a3, a4⟩ := He.ba a
  refine ⟨_, _, fd, ⟨He.eqO_ok a1, of_decide_eq_true a2, of_decide_eq_true a3, ?_⟩, fun_of F⟩
  show ∃ rest, PySem.W.recIn K _ "property" = some (.ref (fget K _) :: rest)
  unfold fget
  cases q : PySem.W.recIn K (He.ma K (He.ga K c) m) "property" with
  | none =>
    rw [q] at a4
    cases a4
  | some l =>
    rw [q] at a4
    match l, a4 with
    | .ref g :: r, _ => exact ⟨r, rfl⟩
end
/-- the end over such a head -/
theorem walk_gE {l : PySem.W.OpenLaw} {n k : Nat} {q : Program} {loose : List Str} {XP : (Str → Option Value) → Heap → Prop} {YP : World → Heap → Prop} {d : DefRec} {x : Str} {sp : PySem.W.Frag → Sp}
    (most : l.most = some n) (small : n ≤ sizeLine) (plain : d.params.defaults = []) (room : Room k callerA)
    (F : ∀ (w : World) (mg : Str → Option Value) (f : Addr) (h : Heap), YP w h → h.Ns mainGlobals mg → mg d.name = some (.ref f) →
      ∃ (K : PySem.W.Frag) (fd : FuncData), K.In h ∧ (∀ (s : Shared) (u : Value), BindsTo s fd ⟨[u], []⟩ [(x, u)]) ∧ ∀ base : Heap, K.In base → base.Ns mainGlobals mg → FnG l.prog w K mg base CX0 k f fd [x] (sp K))
    (hq : ∀ (K : PySem.W.Frag) (H : Hp) (a : Addr) (zs : List Int), zs.length ≤ n → SqL K H a (zs.map V.int) → sp K [.ref a] H (fun v _ => v = .bl true) fun _ _ _ => False) :
    PySem.W.WalkO q loose XP YP l.row.toRowW d [] (fun f vs => PySem.call f vs) := by
  refine Att.attach_call most plain ?_
  intro w s₀ s₁ mg mb f o pm cd doc a us zs G Y _ _ _ hf ha whole len gens
  obtain ⟨K, fd, kin, b, hF⟩ := F w mg f _ Y G.T.g hf
  exact call_law kin G.T.g G.T.b G.T.builtins G.T.nolimit gens ha whole (Nat.le_trans len small) room hF b fun H _ hS => hq _ H a zs len hS
end GL

set_option Elab.async false
set_option linter.all false
set_option maxRecDepth 100000
set_option maxHeartbeats 4000000
namespace KM
open PySem PySem.Spec PyProof.Rows L2 GL
theorem facts {P : Program} {w : World} {K : PySem.W.Frag} {h : Heap} {mg : Str → Option Value} {fa : Addr} (X : K.In h) (G : h.Ns mainGlobals mg) (hfa : mg "law" = some (.ref fa)) (S : SaysM es fs K) :
    ∃ fd : FuncData, (∀ (s : Shared) (u : Value), BindsTo s fd ⟨[u], []⟩ [("_law_script", u)]) ∧ ∀ base : Heap, K.In base → base.Ns mainGlobals mg → FnG P w K mg base CX0 11 fa fd ["_law_script"] (spLaw K) := by
  have B : Bi mg := ⟨He.free_ok X G (S.fact 0 (e := fun K => (He.Fa.free "len").ok K) rfl), He.free_ok X G (S.fact 1 (e := fun K => (He.Fa.free "divmod").ok K) rfl), He.free_ok X G (S.fact 2 (e := fun K => (He.Fa.free "int").ok K) rfl), He.free_ok X G (S.fact 3 (e := fun K => (He.Fa.free "abs").ok K) rfl), He.free_ok X G (S.fact 4 (e := fun K => (He.Fa.free "max").ok K) rfl), He.free_ok X G (S.fact 5 (e := fun K => (He.Fa.free "min").ok K) rfl), He.free_ok X G (S.fact 6 (e := fun K => (He.Fa.free "range").ok K) rfl), He.free_ok X G (S.fact 7 (e := fun K => (He.Fa.free "list").ok K) rfl), He.free_ok X G (S.fact 8 (e := fun K => (He.Fa.free "tuple").ok K) rfl), He.free_ok X G (S.fact 9 (e := fun K => (He.Fa.free "repr").ok K) rfl), He.free_ok X G (S.fact 10 (e := fun K => (He.Fa.free "sorted").ok K) rfl), He.free_ok X G (S.fact 11 (e := fun K => (He.Fa.free "enumerate").ok K) rfl), He.free_ok X G (S.fact 12 (e := fun K => (He.Fa.free "all").ok K) rfl), He.free_ok X G (S.fact 13 (e := fun K => (He.Fa.free "any").ok K) rfl), He.free_ok X G (S.fact 14 (e := fun K => (He.Fa.free "isinstance").ok K) rfl), He.free_ok X G (S.fact 15 (e := fun K => (He.Fa.free "str").ok K) rfl), He.free_ok X G (S.fact 16 (e := fun K => (He.Fa.free "bool").ok K) rfl), He.free_ok X G (S.fact 17 (e := fun K => (He.Fa.free "dict").ok K) rfl), He.free_ok X G (S.fact 18 (e := fun K => (He.Fa.free "sum").ok K) rfl), He.free_ok X G (S.fact 19 (e := fun K => (He.Fa.free "reversed").ok K) rfl)⟩
  have W : Wd K mg := by
    refine ⟨He.str_ok X G (S.fact 21 (e := fun K => (He.Fa.str "LETTERS" abc0).ok K) rfl), He.int_ok X G (S.fact 22 (e := fun K => (He.Fa.int "MOST_LETTERS" 8).ok K) rfl), _, He.glo_ok X G (S.fact 23 (e := fun K => (He.Fa.glo "NO_GOODS").ok K) rfl), ?_⟩
    exact He.tupB_ok (S.fact 24 (e := fun K => He.tupB K "NO_GOODS" (kept0.map He.Dv.str)) rfl) fun _ => none
  have F4 : Cf K mg (He.ga K "Moves") := ⟨He.glo_ok X G (S.fact 25 (e := fun K => (He.Fa.glo "Moves").ok K) rfl), He.cls_ok (S.fact 26 (e := fun K => (He.Fa.cls "Moves").ok K) rfl), He.noat_ok (S.fact 28 (e := fun K => (He.Fa.noat "Moves" "_goods").ok K) rfl), He.noat_ok (S.fact 29 (e := fun K => (He.Fa.noat "Moves" "_conditions").ok K) rfl), (He.eqO_ok (S.fact 30 (e := fun K => He.eqO (PySem.W.findIn K (.ref (He.ga K "Moves")) "__class__") (some (some (.builtin "object.__class__")))) rfl)), (He.eqO_ok (S.fact 31 (e := fun K => He.eqO (PySem.W.specialIn K (.builtin "object.__class__") "__get__") (some (some (.builtin "getset_descriptor.__get__")))) rfl)), (of_decide_eq_true (S.fact 32 (e := fun K => decide (PySem.W.takesIn K (.builtin "object.__class__") = some true)) rfl)), (of_decide_eq_true (S.fact 33 (e := fun K => decide (PySem.W.mroIn K (He.ga K "Moves") (.type "object") = some true)) rfl)), (of_decide_eq_true (S.fact 34 (e := fun K => decide (PySem.W.kitOne K (.type "list") (.ref (He.ga K "Moves")) = some false)) rfl)), (of_decide_eq_true (S.fact 36 (e := fun K => decide (PySem.W.kitOne K (.type "tuple") (.ref (He.ga K "Moves")) = some false)) rfl)), (of_decide_eq_true (S.fact 38 (e := fun K => decide (PySem.W.kitOne K (.type "NoneType") (.ref (He.ga K "Moves")) = some false)) rfl)), (of_decide_eq_true (S.fact 40 (e := fun K => decide (PySem.W.kitOne K (.type "int") (.ref (He.ga K "Moves")) = some false)) rfl)), (of_decide_eq_true (S.fact 42 (e := fun K => decide (PySem.W.kitOne K (.type "str") (.ref (He.ga K "Moves")) = some false)) rfl)), He.int_ok X G (S.fact 44 (e := fun K => (He.Fa.int "MOST_GOODS" 4).ok K) rfl), He.int_ok X G (S.fact 45 (e := fun K => (He.Fa.int "MOST_CONDITIONS" 24).ok K) rfl)⟩
  have CH : Ch K mg (He.ga K "Chains") := ⟨He.glo_ok X G (S.fact 53 (e := fun K => (He.Fa.glo "Chains").ok K) rfl), He.cls_ok (S.fact 54 (e := fun K => (He.Fa.cls "Chains").ok K) rfl), He.noat_ok (S.fact 56 (e := fun K => (He.Fa.noat "Chains" "_places").ok K) rfl), He.noat_ok (S.fact 57 (e := fun K => (He.Fa.noat "Chains" "_conditions").ok K) rfl), He.noat_ok (S.fact 58 (e := fun K => (He.Fa.noat "Chains" "_many").ok K) rfl), He.noat_ok (S.fact 59 (e := fun K => (He.Fa.noat "Chains" "_least_sums").ok K) rfl)⟩
  have RC : Rc K mg (He.ga K "Ratio") := ⟨He.glo_ok X G (S.fact 60 (e := fun K => (He.Fa.glo "Ratio").ok K) rfl), He.cls_ok (S.fact 61 (e := fun K => (He.Fa.cls "Ratio").ok K) rfl), He.noat_ok (S.fact 63 (e := fun K => (He.Fa.noat "Ratio" "_top").ok K) rfl), He.noat_ok (S.fact 64 (e := fun K => (He.Fa.noat "Ratio" "_bottom").ok K) rfl), (He.eqO_ok (S.fact 65 (e := fun K => He.eqO (PySem.W.findIn K (.ref (He.ga K "Ratio")) "__class__") (some (some (.builtin "object.__class__")))) rfl)), (He.eqO_ok (S.fact 31 (e := fun K => He.eqO (PySem.W.specialIn K (.builtin "object.__class__") "__get__") (some (some (.builtin "getset_descriptor.__get__")))) rfl)), (of_decide_eq_true (S.fact 32 (e := fun K => decide (PySem.W.takesIn K (.builtin "object.__class__") = some true)) rfl)), (of_decide_eq_true (S.fact 66 (e := fun K => decide (PySem.W.mroIn K (He.ga K "Ratio") (.type "object") = some true)) rfl)), (of_decide_eq_true (S.fact 67 (e := fun K => decide (PySem.W.kitOne K (.type "int") (.ref (He.ga K "Ratio")) = some false)) rfl)), (of_decide_eq_true (S.fact 68 (e := fun K => decide (PySem.W.kitOne K (.ref (He.ga K "Ratio")) (.type "int") = some false)) rfl)), PySem.W.mg_of X G (He.eqO_ok (S.fact 69 (e := fun K => He.eqO (PySem.W.nsIn K mainGlobals "gcd") (some (some (.builtin "math.gcd")))) rfl))⟩
  have t0 : SqT K (fun _ => none) (dflM "Moves" "__init__" K) [] := noTup_ok (S.fact 46 (e := fun K => noTup K (dflM "Moves" "__init__" K)) rfl)
  have init : ∃ f fd, Mk K (He.ga K "Moves") f ∧ FunD K "__init__" "Moves.__init__" (defArgs (mth 0)) (defBody (mth 0)) (defScope (mth 0)) [.ref (dflM "Moves" "__init__" K)] [] f fd := by
    obtain ⟨_, _, fd, F⟩ := S.def_ 61 (d := dM "Moves" "__init__" "Moves.__init__" (mt0 0) fun K => [.ref (dflM "Moves" "__init__" K)]) rfl
    exact ⟨_, fd, He.mkr_ok (x := "Moves") (S.fact 27 (e := fun K => (He.Fa.mkr "Moves").ok K) rfl), F⟩
  have initD : ∃ f fd, Mk K (He.ga K "Chains") f ∧ Fun K "__init__" "Chains.__init__" (chm 0) f fd := by
    obtain ⟨_, _, fd, F⟩ := S.def_ 62 (d := dM "Chains" "__init__" "Chains.__init__" (ch0 0) fun _ => []) rfl
    exact ⟨_, fd, He.mkr_ok (x := "Chains") (S.fact 55 (e := fun K => (He.Fa.mkr "Chains").ok K) rfl), fun_of F⟩
  have initR : ∃ f fd, Mk K (He.ga K "Ratio") f ∧ FunD K "__init__" "Ratio.__init__" (defArgs (rm 0)) (defBody (rm 0)) (defScope (rm 0)) [.int 1] [] f fd := by
    obtain ⟨_, _, fd, F⟩ := S.def_ 63 (d := dM "Ratio" "__init__" "Ratio.__init__" (rm0 0) fun _ => [.int 1]) rfl
    exact ⟨_, fd, He.mkr_ok (x := "Ratio") (S.fact 62 (e := fun K => (He.Fa.mkr "Ratio").ok K) rfl), F⟩
  have RN : Rk K (He.ga K "Ratio") := by
    constructor
    intro n hn
    simp only [kinds, List.mem_cons, List.not_mem_nil, or_false] at hn
    rcases hn with rfl | rfl | rfl | rfl | rfl | rfl | rfl
    · exact (of_decide_eq_true (S.fact 71 (e := fun K => decide (PySem.W.kitOne K (.type "NoneType") (.ref (He.ga K "Ratio")) = some false)) rfl))
    · exact (of_decide_eq_true (S.fact 72 (e := fun K => decide (PySem.W.kitOne K (.type "bool") (.ref (He.ga K "Ratio")) = some false)) rfl))
    · exact (of_decide_eq_true (S.fact 73 (e := fun K => decide (PySem.W.kitOne K (.type "int") (.ref (He.ga K "Ratio")) = some false)) rfl))
    · exact (of_decide_eq_true (S.fact 74 (e := fun K => decide (PySem.W.kitOne K (.type "str") (.ref (He.ga K "Ratio")) = some false)) rfl))
    · exact (of_decide_eq_true (S.fact 75 (e := fun K => decide (PySem.W.kitOne K (.type "list") (.ref (He.ga K "Ratio")) = some false)) rfl))
    · exact (of_decide_eq_true (S.fact 76 (e := fun K => decide (PySem.W.kitOne K (.type "tuple") (.ref (He.ga K "Ratio")) = some false)) rfl))
    · exact (of_decide_eq_true (S.fact 77 (e := fun K => decide (PySem.W.kitOne K (.type "dict") (.ref (He.ga K "Ratio")) = some false)) rfl))
  have NM : NoMv K mg (He.ga K "NoMove") := ⟨He.glo_ok X G (S.fact 78 (e := fun K => (He.Fa.glo "NoMove").ok K) rfl), (S.fact 79 (e := fun K => PySem.W.excIn K (He.ga K "NoMove") [.type "RuntimeError", .type "Exception", .type "BaseException", .type "object"] "RuntimeError.__new__") rfl), (S.fact 80 (e := fun K => PySem.W.keepIn K (.ref (He.ga K "NoMove"))) rfl), (of_decide_eq_true (S.fact 81 (e := fun K => decide (PySem.W.subIn K (.ref (He.ga K "NoMove")) (.type "BaseException") = some true)) rfl)), (of_decide_eq_true (S.fact 82 (e := fun K => decide (PySem.W.typeIn K (.ref (He.ga K "NoMove")) = some (.type "type"))) rfl)), (of_decide_eq_true (S.fact 83 (e := fun K => decide (PySem.W.exmOne K (.ref (He.ga K "NoMove")) (.ref (He.ga K "NoMove")) = some true)) rfl))⟩
  have AC : AddC K (He.ga K "Moves") := ⟨(S.fact 84 (e := fun K => PySem.W.selfFirst K (He.ga K "Moves")) rfl), (He.eqO_ok (S.fact 85 (e := fun K => He.eqO (PySem.W.findIn K (.ref (He.ga K "Moves")) (dunderR "add")) (some none)) rfl)), (of_decide_eq_true (S.fact 37 (e := fun K => decide (PySem.W.subIn K (.type "tuple") (.ref (He.ga K "Moves")) = some false)) rfl)), (He.eqO_ok (S.fact 86 (e := fun K => He.eqO (PySem.W.findIn K (.type "tuple") (PySem.dunder "add")) (some (some (.builtin "tuple.__add__")))) rfl)), (He.eqO_ok (S.fact 87 (e := fun K => He.eqO (PySem.W.findIn K (.type "tuple") (dunderR "add")) (some none)) rfl))⟩
  have Z : Bz mg := ⟨He.free_ok X G (S.fact 20 (e := fun K => (He.Fa.free "zip").ok K) rfl)⟩
  exact all_ok (T0 := dflM "Moves" "__init__" K) hfa B Z W F4 CH RC RN NM AC init initD initR (S.pf 64 rfl) (S.pf 65 rfl) (S.fact 70 (e := fun K => PySem.W.selfFirst K (He.ga K "Ratio")) rfl) ⟨(of_decide_eq_true (S.fact 35 (e := fun K => decide (PySem.W.subIn K (.type "list") (.ref (He.ga K "Moves")) = some false)) rfl)), (of_decide_eq_true (S.fact 37 (e := fun K => decide (PySem.W.subIn K (.type "tuple") (.ref (He.ga K "Moves")) = some false)) rfl)), (of_decide_eq_true (S.fact 39 (e := fun K => decide (PySem.W.subIn K (.type "NoneType") (.ref (He.ga K "Moves")) = some false)) rfl)), (of_decide_eq_true (S.fact 41 (e := fun K => decide (PySem.W.subIn K (.type "int") (.ref (He.ga K "Moves")) = some false)) rfl)), (of_decide_eq_true (S.fact 43 (e := fun K => decide (PySem.W.subIn K (.type "str") (.ref (He.ga K "Moves")) = some false)) rfl))⟩ ⟨_, _, ⟨ownB_ok (S.fact 47 (e := fun K => ownB K (He.ga K "Moves") (nsOf K (He.ga K "Moves"))) rfl), (S.fact 48 (e := fun K => PySem.W.nsOkIn K (nsOf K (He.ga K "Moves"))) rfl), (He.eqO_ok (S.fact 49 (e := fun K => He.eqO (PySem.W.nsIn K (nsOf K (He.ga K "Moves")) "__eq__") (some (some (.ref (He.ma K (He.ga K "Moves") "__eq__"))))) rfl)), (He.eqO_ok (S.fact 50 (e := fun K => He.eqO (PySem.W.nsIn K (nsOf K (He.ga K "Moves")) "__ne__") (some none)) rfl)), (of_decide_eq_true (S.fact 51 (e := fun K => decide (PySem.W.typeIn K (.ref (He.ma K (He.ga K "Moves") "__eq__")) = some (.type "function"))) rfl))⟩, (He.eqO_ok (S.fact 52 (e := fun K => He.eqO (PySem.W.findIn K (.ref (He.ga K "Moves")) "__eq__") (some (some (.ref (He.ma K (He.ga K "Moves") "__eq__"))))) rfl))⟩
    (S.gf X G 0 rfl)
    (S.gf X G 1 rfl)
    (S.gf X G 2 rfl)
    (S.gf X G 3 rfl)
    (S.gf X G 4 rfl)
    (S.gf X G 5 rfl)
    (S.gf X G 6 rfl)
    (S.gf X G 7 rfl)
    (S.gf X G 8 rfl)
    (S.gf X G 9 rfl)
    (S.gf X G 10 rfl)
    (S.gf X G 11 rfl)
    (S.gf X G 12 rfl)
    (S.gf X G 13 rfl)
    (S.gf X G 14 rfl)
    (S.gf X G 15 rfl)
    (S.gf X G 16 rfl)
    (S.gf X G 17 rfl)
    (S.gf X G 18 rfl)
    (S.gf X G 19 rfl)
    (S.gf X G 20 rfl)
    (S.gf X G 21 rfl)
    (S.gf X G 22 rfl)
    (S.gf X G 23 rfl)
    (S.gf X G 24 rfl)
    (S.gf X G 25 rfl)
    (S.gf X G 26 rfl)
    (S.gf X G 27 rfl)
    (S.gf X G 28 rfl)
    (S.gf X G 29 rfl)
    (S.gf X G 30 rfl)
    (S.gf X G 31 rfl)
    (S.gf X G 32 rfl)
    (S.gf X G 33 rfl)
    (S.gf X G 34 rfl)
    (S.gf X G 35 rfl)
    (S.gf X G 36 rfl)
    (S.gf X G 37 rfl)
    (S.gf X G 38 rfl)
    (S.gf X G 39 rfl)
    (S.gf X G 40 rfl)
    (S.gf X G 41 rfl)
    (S.gf X G 42 rfl)
    (S.gf X G 43 rfl)
    (S.gf X G 44 rfl)
    (S.gf X G 45 rfl)
    (S.mf 46 rfl)
    (S.mf 47 rfl)
    (S.mf 48 rfl)
    (S.mf 49 rfl)
    (S.mf 50 rfl)
    (S.mf 51 rfl)
    (S.mf 52 rfl)
    (S.mf 53 rfl)
    (S.mf 54 rfl)
    (S.mf 55 rfl)
    (S.mf 56 rfl)
    (S.mf 57 rfl)
    (S.mf 58 rfl)
    (S.mf 59 rfl)
    (S.mf 60 rfl)
end KM

set_option Elab.async false
set_option linter.all false
set_option maxRecDepth 100000
set_option maxHeartbeats 0
open PySem PySem.W PySem.Calls PyProof.Rows
theorem PySem.Challenge.cw_lateledger_k52_whole_moves_rings_and_cha_holds : PySem.Challenge.rw_lateledger_k52_whole_moves_rings_and_cha.Holds := by
  w_on; o_law
  refine HandSHeadRun.head_imp (r := OpenLaw.row PySem.Challenge.rw_lateledger_k52_whole_moves_rings_and_cha) (q := KM.qv) (H := GL.hookM KM.es KM.fs) (ob := GL.obM KM.es KM.fs) (M := 9000) (loose := KM.loose) (d := HandSHeadRun.topDef (OpenLaw.row PySem.Challenge.rw_lateledger_k52_whole_moves_rings_and_cha).prog 77) (kwd := []) (GL.obM_eq KM.es KM.fs)
    KM.run (by kernel_rfl) (by kernel_rfl) (by kernel_rfl) (by rfl) (by first | assumption | decide +kernel) (by decide +kernel) ⟨rfl, rfl, rfl, rfl, rfl, by decide +kernel⟩ ?hw ?hc
  case hw => w_witness2
  case hc =>
    refine GL.walk_gE (l := PySem.Challenge.rw_lateledger_k52_whole_moves_rings_and_cha) (n := 63) (k := 11) (x := "_law_script") (sp := KM.spLaw) rfl (by decide) (by kernel_rfl) ⟨rfl, by decide, by decide⟩ ?F (fun _ _ a zs _ hS => ⟨a, zs, rfl, hS, fun _ => rfl⟩)
    intro w mg fa h Y G hmg0
    obtain ⟨K, KX, c⟩ := Y
    have hmg : mg ("law" : PySem.Str) = some (.ref fa) := by
      have e : (HandSHeadRun.topDef (OpenLaw.row PySem.Challenge.rw_lateledger_k52_whole_moves_rings_and_cha).prog 77).name = ("law" : PySem.Str) := by kernel_rfl
      rw [← e]
      exact hmg0
    obtain ⟨fd, hb, hF⟩ := KM.facts (P := (PySem.Challenge.rw_lateledger_k52_whole_moves_rings_and_cha).prog) (w := w) KX G hmg c
    exact ⟨K, fd, KX, hb, hF⟩
#print axioms PySem.Challenge.cw_lateledger_k52_whole_moves_rings_and_cha_holds

