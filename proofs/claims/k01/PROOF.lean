import PyProof.Rows.All
import Wide.All
import OpenK.AllK
import Wide.FinOn
import KE.KExcTry
import KE.KExcStr
import HandS.ExcInit
import KE.KExcIs
import HandS.ForMost
import HandS.ExcIs
import HandS.ExcOwn
import HandS.ExcValue
import HandS.IsInst
import HandS.More
import PyProof.NeKinds
import KE.IntTextLaws
import KE.GoesEnumKw
import HandS.OwnEq
import HandS.ClsMeth
import HandS.Defaults
import PyProof.StrLawsChain
import HandS.ExcField
import HandS.WordsExc
import HandS.TryMany
import HandS.CallSlots
import HandS.Walk
import HandS.EndTab
import PyProof.ReprRoads
import HandS.TupMul
import PyProof.FactsLen
import HandS.New0
import KE.GoesMore
import PyProof.EnumMake
import PyProof.InstNe
import HandS.Property
import HandS.Lambda
import HandS.FStr
import HandS.Wide
import HandS.StrMore
import PySem.Challenge.RW_freelots_k01_rows_made
set_option Elab.async false
set_option linter.all false
set_option maxRecDepth 100000
set_option maxHeartbeats 4000000
/-! An own exception class over ValueError (at any depth) with `def __init__(self, f): super().__init__('words'); self.f = f`. -/
namespace My
open PySem PySem.W PySem.Calls
section
variable {prog : Program} {w : World} {A : Around} {E : Value → Shared → Prop} {R : Result → Shared → Prop} {K : Frag}
/-- the wrapper bound by super() is called -/
theorem mw_call {hp : Heap} {gs : Array GenState} {dr : Drawn} {tk : Nat} {os : OsState} {nm qn : Str} {C N : Addr} {bs bm bb : List Value} {hd : Bool} {sn : List Str} {sb : List Value}
    {ab : Bool} {col : Option Bool} {dd : Option Addr} {k0 k1 k2 k3 k5 : Option Value} {B ni ii : String} {u e t0 : Addr} {rest : List Value} {Q : Value → Shared → Prop}
    (FB : ExcBaseFacts B ni ii bb)
    (hC : hp.get? C = some (excClassObj nm qn C N bs bm hd sn sb ab col dd k0 k1 k2 k3 k5 ni)) (he : hp.get? e = some (excRec (.ref C) t0 none .none .none (.bool false)))
    (hu : hp.get? u = some (kxs_mw ii e)) (hz : rest.length ≤ sizeLine)
    (hq : ∀ h' t1, (∀ b o, b ≠ e → hp.get? b = some o → h'.get? b = some o) → h'.get? e = some (excRec (.ref C) t1 none .none .none (.bool false)) → Q .none ⟨h', gs, dr, tk, os⟩) :
    wpAny (model prog w) A (call (.ref u) rest) Q E ⟨hp, gs, dr, tk, os⟩ := by
  refine wpAny_call (codeAny_of_tree ?_)
  show wpAny _ A.in1 (callAny (.ref u) ⟨rest, []⟩) _ _ _
  simp only [callAny]
  refine wpAny_bind (wpAny_load hu ?_)
  have c1 : (Value.type "method-wrapper" == Value.type "method" || Value.type "method-wrapper" == Value.type "builtin_function_or_method"
    || Value.type "method-wrapper" == Value.type "method-wrapper") = true := by decide
  simp only [kxs_mw, c1, if_true]
  refine KFB.if_so (by decide) ?_
  refine wpAny_bind (check_bound_init FB.toExcCallFacts hC he rfl ?_)
  refine wpAny_bind (wpAny_pure (wpAny_pure ?_))
  refine ⟨plainId_quiet FB.init.plain _, codeAny_builtin FB.initEntry ?_⟩
  exact exc_init_tree he hz fun h' k e' _ => hq h' _ k e'
/-- the body of such an __init__ -/
def initBody (msg fld : Str) (j : Nat) (p0 p1 p2 p3 p4 p5 q0 q1 q2 q3 : Pos) : List Stmt :=
  [.Expr (.Call (.Attribute (.Call (.Name "super" p0) [] [] p1) "__init__" p2) [.Constant (.str msg) j p3] [] p4) p5,
   .Assign [.Attribute (.Name "self" q0) fld q1] (.Name fld q2) q3]
structure InitScope (sc : Scope) (fld : Str) : Prop where
  kind : sc.kind = .function
  co : sc.isCoroutine = false
  gen : sc.isGenerator = false
  nocell : ∀ x ∈ sc.names, x.2 ≠ .cell
  self : sc.names.lookup ("self" : Str) = some .local
  fld : sc.names.lookup fld = some .local
  sup : sc.names.lookup ("super" : Str) = some .globalImplicit
  cls : sc.names.lookup ("__class__" : Str) = some .free
theorem meth_eval {o : Expr} {name : Str} {p2 p4 p3 : Pos} {env : Env} {c : Const} {j : Nat} (hl : (p2.endLine == p4.line) = true) :
    eval (.Call (.Attribute o name p2) [.Constant c j p3] [] p4) env = (do
      let ov ← attributeBase o name env (eval o env)
      standAt p2.atName
      let (f, first) ← holding [ov] (getMethod ov name (do return (← importBound o env).getD true))
      callWith p4 f first (backTo p4 (starEach [.Constant c j p3] env)) []) := by
  show (do
    let ov ← attributeBase o name env (eval o env)
    standAt p2.atName
    methodCall o name p2 p4 env ov 1 (backTo p4 (starEach [.Constant c j p3] env)) []) = _
  congr 1
  funext ov
  congr 1
  funext _
  unfold methodCall methodCallPos
  have hf : methodCallForm 1 (backTo p4 (starEach [Expr.Constant c j p3] env)) [] = true := rfl
  rw [hf, hl]
  simp [calleeOf]
theorem init_run {s : Shared} {C D fI cda cc e t0 : Addr} {v : Value} {args : Args} {mg mb : Str → Option Value} {msg fld name qual file : Str} {j : Nat} {p0 p1 p2 p3 p4 p5 q0 q1 q2 q3 : Pos}
    {params : Arguments} {ar : Arg} {scope : Scope} {dV kV doc pm ct oc ccl cl : Value} {an od cdd cld : Option Addr} {osl ccs csl : Array (Option Value)} {vs : Array Value} {tf : Tok} {cdD cdC : ClassData} {B ni ii : String} {bb : List Value}
    {nmC qnC : Str} {NC : Addr} {bsC bmC : List Value} {hdC0 : Bool} {snC : List Str} {sbC : List Value} {abC : Bool} {colC : Option Bool} {ddC : Option Addr} {w0 w1 w2 w3 w5 : Option Value}
    (X : K.In s.heap) (hKe : ∀ o, K.lookup e = some o → False) (lim : s.heap.NoLimit) (hG : s.heap.Ns mainGlobals mg) (hsup : mg "super" = none) (hB : s.heap.Ns builtinsNs mb) (hsb : mb "super" = some (.type "super"))
    (FB : ExcBaseFacts B ni ii bb) (KF : KxsFacts B ii)
    (hCK : K.lookup C = some (excClassObj nmC qnC C NC bsC bmC hdC0 snC sbC abC colC ddC w0 w1 w2 w3 w5 ni)) (hclC : clsIn K C = some cdC) (hmC : PySem.HandSPX.refsVE cdC.mro = true) (hdC : cdC.hasDict = true)
    (saC : findIn K (.ref C) "__setattr__" = some (some (.builtin "object.__setattr__"))) (fC : findIn K (.ref C) fld = some none)
    (hD : clsIn K D = some cdD) (hsub : mroIn K C (.ref D) = some true) (hopq : nsIn K cStatics "thirdparty.any" = some none)
    (hin : ks_superIn K C D "__init__" = some (some (.builtin ii))) (hBC : subIn K (.ref C) (.type B) = some true)
    (S : InitScope scope fld) (hne : fld ≠ "self") (hdb : (fld == ("__debug__" : Str)) = false)
    (lk : K.lookup fI = some ⟨oc, od, .func (ksFn name qual params (initBody msg fld j p0 p1 p2 p3 p4 p5 q0 q1 q2 q3) scope dV kV doc pm an (.ref cda) ct cc), osl⟩)
    (hcd : codeIn K (.ref cda) qual = true) (hp : (params.posonlyargs ++ params.args).head? = some ar) (har : ar.arg = "self")
    (hcode : K.lookup cda = some ⟨ccl, cdd, .fields vs, ccs⟩) (hvs : vs[2]? = some (.str file tf)) (hfile : ((prog.main.file : Str) == file) = true)
    (htop : (prog.main.scope.names.lookup ("super" : Str)).isSome = false)
    (hcell : K.lookup cc = some ⟨cl, cld, .cell (some (.ref D)), csl⟩)
    (hl : (p2.endLine == p4.line) = true) (hroom : A.depth < recursionLimit) (hbind : BindsTo s (ksFn name qual params (initBody msg fld j p0 p1 p2 p3 p4 p5 q0 q1 q2 q3) scope dV kV doc pm an (.ref cda) ct cc) args [("self", .ref e), (fld, v)])
    (he : s.heap.get? e = some (excRec (.ref C) t0 none .none .none (.bool false)))
    (hq : ∀ h' tk dx t1, (∀ b o, b ≠ e → s.heap.get? b = some o → h'.get? b = some o) → s.heap.objs.size ≤ dx → dx ≠ e → h'.get? e = some (excRec (.ref C) t1 (some dx) .none .none (.bool false)) →
      h'.Ns1 dx (fun y => if y = fld then some v else none) → R (.ok (.ret .none)) ⟨h', s.gens, s.drawn, tk, s.os⟩) :
    codeAny (model prog w) A (.call (.ref fI) args) R s := by
  obtain ⟨hh, g, d, tk, os⟩ := s
  have hloc : ∀ y ∈ [(("self" : Str), Value.ref e), (fld, v)], scope.names.lookup y.1 = some .local := fun y hy => by
    rcases List.mem_cons.mp hy with rfl | hy
    · exact S.self
    · rcases List.mem_cons.mp hy with rfl | hy
      · exact S.fld
      · cases hy
  refine ks_codeAny_call_defAt (fd := ksFn name qual params (initBody msg fld j p0 p1 p2 p3 p4 p5 q0 q1 q2 q3) scope dV kV doc pm an (.ref cda) ct cc) (body := initBody msg fld j p0 p1 p2 p3 p4 p5 q0 q1 q2 q3)
    hroom (X _ _ lk) rfl lim (codeRec_of X hcd) rfl hbind S.nocell hloc (fun h1 hns k1 => ?_) S.co S.gen S.kind
  show PySem.wpAt _ _ _ (execs (initBody msg fld j p0 p1 p2 p3 p4 p5 q0 q1 q2 q3) (ksEnv qual scope hh.objs.size fI (.ref cda) cc)) _ _ _
  have X1 : K.In h1 := X.keeps k1
  have hm0 : (([(("self" : Str), Value.ref e), (fld, v)] : List (Str × Value)).reverse.lookup ("self" : Str)) = some (.ref e) := by
    have : (("self" : Str) == fld) = false := by simpa using (Ne.symm hne)
    simp [List.lookup, this]
  have hm1 : (([(("self" : Str), Value.ref e), (fld, v)] : List (Str × Value)).reverse.lookup fld) = some v := by
    simp [List.lookup]
  unfold initBody
  have hi : interactive (ksEnv qual scope hh.objs.size fI (.ref cda) cc) = false := by
    show (scope.kind == .module && _) = false
    rw [S.kind]
    rfl
  refine ks_wpAt_execs_cons (ks_wpAt_Expr_any ?_ hi)
  refine ks_wpAt_MethodCall ?_ (meth_eval hl)
  refine ks_wpAt_super_base (env := ksEnv qual scope hh.objs.size fI (.ref cda) cc) S.sup S.cls (by decide) rfl (X1 _ _ lk) rfl hp rfl (X1 _ _ hcode) rfl hvs hfile htop ?_
  have hsup0 : (envX qual scope hh.objs.size fI (.ref cda) [("__class__", cc)]).kindOf "super" = some .globalImplicit := S.sup
  refine ks_loadName_global S.kind hsup0 (loadGlobal_builtin (hG.keeps k1) hsup (hB.keeps k1) hsb ⟨rfl, ?_⟩)
  refine wpAny_loadName_free S.kind S.cls rfl ⟨_, X1 _ _ hcell, rfl⟩ ?_
  rw [har]
  refine wpAny_loadName_local S.kind S.self hns hm0 ?_
  obtain ⟨oD, hD1, hD2⟩ : ∃ oD, h1.get? D = some oD ∧ oD.data = .cls cdD := by
    unfold clsIn at hD
    split at hD
    · rename_i ho
      cases hD
      exact ⟨_, X1 _ _ ho, rfl⟩
    · cases hD
  refine ks_wpAny_isType_cls hD1 hD2 ⟨rfl, ?_⟩
  have he1 := k1 _ _ he
  have eC : e ≠ C := by
    intro z
    unfold clsIn at hclC
    split at hclC
    · rename_i ho
      have q := X1 _ _ ho
      rw [← z, he1] at q
      cases q
    · cases hclC
  refine ks_wpAny_call_super hD1 hD2 he1 rfl (fun c q => by cases q) (looks_mroIn X1 hsub) fun h2 hso k2 => ?_
  have X2 : K.In h2 := X1.keeps k2
  have he2 := k2 _ _ he1
  have hI : Looks (model prog w) h2 (isInstance (.ref e) (.type B)) true :=
    (show InstAt h2 e _ C none from ⟨he2, rfl, rfl, trivial⟩).type.andThen (looks_subIn X2 hBC)
  have hin' : alongIn K "__init__" ((cdC.mro.dropWhile (· != .ref D)).drop 1) = some (some (.builtin ii)) := by
    unfold ks_superIn at hin
    rw [hclC] at hin
    exact hin
  refine kxs_getMethod KF hso (looks_opaque X2 hopq) (l₀ := cdC.mro) ((looks_clsIn X2 hclC).andThen .now) rfl X2 hin' hI eC (by decide) ?_
  have k3 : ∀ b o, h2.get? b = some o → (h2.push (kxs_mw ii e)).get? b = some o := fun b o q => Heap.get?_push_of_some _ q
  have hu : (h2.push (kxs_mw ii e)).get? h2.objs.size = some (kxs_mw ii e) := Heap.get?_push_at rfl rfl
  refine kxs_callWith (i := ii) (x := e) (by rfl) (evalArgs_plain (spliced_cons ?_))
  refine Constant_str (pos := p3) (k := j) (spliced_nil ⟨hu, ?_⟩)
  have X3 : K.In (h2.push (kxs_mw ii e)) := X2.keeps k3
  refine mw_call FB (X3 _ _ hCK) (k3 _ _ he2) hu (by show 1 ≤ sizeLine; rw [sizeLine_eq]; omega) fun h4 t4 k4 e4 => ?_
  show PySem.wpAt _ _ _ _ _ _ _
  have X4 : K.In h4 := fun b o q => by
    by_cases hb : b = e
    · rw [hb] at q
      exact (hKe o q).elim
    · exact k4 b o hb (X3 b o q)
  have hns4 : h4.Ns hh.objs.size fun x => List.lookup x [(Str.ofString "self", Value.ref e), (fld, v)].reverse := by
    obtain ⟨oL, es, ep, hL, r⟩ := hns
    refine ⟨oL, es, ep, k4 _ _ (fun z => ?_) (k3 _ _ (k2 _ _ hL)), r⟩
    have y := Heap.lt_size he
    rw [← z] at y
    exact absurd y (Nat.lt_irrefl _)
  refine ks_wpAt_execs_cons (ks_wpAt_Assign_Attr (PySem.wpAt_of_wpAny ?_))
  refine wpAny_Name (env := ksEnv qual scope hh.objs.size fI (.ref cda) cc) (wpAny_loadName_local (m := fun x : Str => ([(("self" : Str), Value.ref e), (fld, v)] : List (Str × Value)).reverse.lookup x) S.kind S.fld hns4 hm1 ?_) hdb
  refine wpAny_Name (env := ksEnv qual scope hh.objs.size fI (.ref cda) cc) (wpAny_loadName_local (m := fun x : Str => ([(("self" : Str), Value.ref e), (fld, v)] : List (Str × Value)).reverse.lookup x) S.kind S.self hns4 hm0 ?_) (by decide)
  refine set_plain X4 (ox := excRec (.ref C) t4 none .none .none (.bool false)) (od := none) ⟨e4, rfl, rfl, trivial⟩ saC ?_
  refine PySem.HandSPX.exc_osa X4 e4 hclC hmC hdC fC fun h5 tk5 dx k5 l5 n5 e5 d5 => ?_
  refine PySem.wpAt_of_wpAny (wpAny_execs_nil ?_)
  refine hq h5 _ dx t4 (fun b o nb q => k5 b o nb (k4 b o nb (k3 _ _ (k2 _ _ (k1 _ _ q))))) ?_ n5 e5 d5
  obtain ⟨oL, es, ep, hL, _⟩ := hns4
  exact Nat.le_of_lt (Nat.lt_of_lt_of_le (Heap.lt_size hL) l5)
end
end My
namespace My
open PySem L2
/-- what the text's written part holds of such an __init__ (D: the class it stands in) -/
structure InitFn (K : PySem.W.Frag) (P : Program) (D : Addr) (fld : Str) (fI : Addr) (fd : FuncData) : Prop where
  ex : ∃ (msg name qual file : Str) (j : Nat) (p0 p1 p2 p3 p4 p5 q0 q1 q2 q3 : Pos) (params : Arguments) (ar : Arg) (scope : Scope) (dV kV doc pm ct oc ccl cl : Value) (an od cdd cld : Option Addr)
      (osl ccs csl : Array (Option Value)) (vs : Array Value) (tf : Tok) (cda cc : Addr),
    fd = PySem.W.ksFn name qual params (initBody msg fld j p0 p1 p2 p3 p4 p5 q0 q1 q2 q3) scope dV kV doc pm an (.ref cda) ct cc ∧
    K.lookup fI = some ⟨oc, od, .func fd, osl⟩ ∧ PySem.W.codeIn K (.ref cda) qual = true ∧ (params.posonlyargs ++ params.args).head? = some ar ∧ ar.arg = "self" ∧
    K.lookup cda = some ⟨ccl, cdd, .fields vs, ccs⟩ ∧ vs[2]? = some (.str file tf) ∧ ((P.main.file : Str) == file) = true ∧
    K.lookup cc = some ⟨cl, cld, .cell (some (.ref D)), csl⟩ ∧ (p2.endLine == p4.line) = true ∧ InitScope scope fld
  cd : ∃ cdD, PySem.W.clsIn K D = some cdD
  top : (P.main.scope.names.lookup ("super" : Str)).isSome = false
  opq : PySem.W.nsIn K cStatics "thirdparty.any" = some none
  ne : fld ≠ "self"
  db : (fld == ("__debug__" : Str)) = false
/-- the class C that is made, whose __init__ this is -/
structure InitOf (K : PySem.W.Frag) (C D : Addr) (fld : Str) : Prop where
  T : OexC K C
  sub : PySem.W.mroIn K C (.ref D) = some true
  sup : PySem.W.ks_superIn K C D "__init__" = some (some (.builtin "ValueError.__init__"))
  ve : PySem.W.subIn K (.ref C) (.type "ValueError") = some true
  nof : PySem.W.findIn K (.ref C) fld = some none
/-- what such an __init__ does -/
def spInit (K : PySem.W.Frag) (D : Addr) (fld : Str) : Sp := fun vs H Q _ => ∃ (a C : Addr) (y : V), vs = [.ref a, y] ∧ InitOf K C D fld ∧ H a = some (exo a C none) ∧
  ∀ dx, H dx = none → dx ≠ a → Q .non (upd (upd H dx (exd dx [(fld, y)])) a (exo a C (some dx)))
theorem exo_new_un {fs : List Addr} {H : Hp} {h h' : Heap} {a C dx : Addr} {f : Str} {y : V} (ha : H a = some (exo a C none)) (hdx : H dx = none)
    (k : ∀ b o, b ≠ a → h.get? b = some o → h'.get? b = some o) (l : h.objs.size ≤ dx) (ea : ∃ o, h'.get? a = some o) :
    Un fs [] H (upd (upd H dx (exd dx [(f, y)])) a (exo a C (some dx))) h h' := by
  have na : ∀ {b : Addr}, H b = none → b ≠ a := by
    intro b n z
    rw [z, ha] at n
    cases n
  have nd : ∀ {b : Addr} {o : Obj}, h.get? b = some o → b ≠ dx := by
    intro b o q z
    have y := Heap.lt_size q
    rw [z] at y
    exact absurd y (Nat.not_lt.mpr l)
  refine ⟨?_, ?_, ?_, ?_, ?_, ?_, ?_⟩
  · intro b o q n _ _
    exact k b o (na n) q
  · intro b o q n _ _
    exact ⟨o.slots, k b o (na n) q⟩
  · intro b o q n _
    rw [upd_ne (na n)]
    rw [upd_ne (nd q)]
    exact n
  · intro b o q _
    by_cases z : b = a
    · rw [z]
      exact ea
    · exact ⟨o, k b o z q⟩
  · intro b xs q
    rw [upd_ne (at_ne ha q exo_tup)]
    rw [upd_ne (ne_of_none q hdx)]
    exact q
  · intro b o u q
    rw [upd_ne (at_ne ha q exo_frz)]
    rw [upd_ne (ne_of_none q hdx)]
    exact q
  · intro b ps q
    refine ⟨#[], ?_⟩
    rw [upd_ne (at_ne ha q exo_tbl)]
    rw [upd_ne (ne_of_none q hdx)]
    rw [q]
    simp
theorem exo_new_ok {P : Program} {w : World} {H : Hp} {h h' : Heap} {a C dx t1 : Addr} {f : Str} {y : V} {u : Value} (hok : HOk P w H h) (ha : H a = some (exo a C none)) (hdx : H dx = none)
    (k : ∀ b o, b ≠ a → h.get? b = some o → h'.get? b = some o)
    (ea : h'.get? a = some ({ cls := .ref C, dict := some dx, data := .fields #[.ref t1, .none, .none, .none, .bool false, .none] } : Obj))
    (ry : RelV y u) (hn : h'.Ns1 dx (fun z => if z = f then some u else none)) :
    HOk P w (upd (upd H dx (exd dx [(f, y)])) a (exo a C (some dx))) h' := by
  intro b o q
  by_cases za : b = a
  · rw [za] at q ⊢
    rw [upd_same] at q
    cases q
    exact exo_ok ea
  rw [upd_ne za] at q
  by_cases zd : b = dx
  · rw [zd] at q ⊢
    rw [upd_same] at q
    cases q
    exact exd_ok hn (relO_put (fs := []) ry fun _ => True.intro)
  rw [upd_ne zd] at q
  refine (hok b o q).stay ?_ ?_ ?_
  · intro c v hc z
    refine k c v ?_ z
    rcases hc with hc | hc
    · rw [hc]
      exact za
    · exact at_ne ha hc exo_own
  · intro c hc
    rw [upd_ne (at_ne ha hc exo_own)]
    rw [upd_ne (ne_of_none hc hdx)]
    exact hc
  · intro c xs hc
    rw [upd_ne (at_ne ha hc exo_tup)]
    rw [upd_ne (ne_of_none hc hdx)]
    exact hc
theorem init_ok {P : Program} {w : World} {K : PySem.W.Frag} {mg : Str → Option Value} {base : Heap} {CX : CXT} {D fI : Addr} {fld : Str} {fd : FuncData} (F : InitFn K P D fld fI fd) (ms : mg "super" = none) :
    FnOk P w K mg base CX 0 fI fd ["self", fld] (spInit K D fld) := by
  refine ⟨fun vs H Q E h => ?_, fun A outer s H args us vs Q E hr e0 hb r hsp => ?_⟩
  · obtain ⟨a, C, y, rfl, _⟩ := h
    rfl
  obtain ⟨a, C, y, rfl, J, ha, hq⟩ := hsp
  obtain ⟨msg, name, qual, file, j, p0, p1, p2, p3, p4, p5, q0, q1, q2, q3, params, ar, scope, dV, kV, doc, pm, ct, oc, ccl, cl, an, od, cdd, cld, osl, ccs, csl, vs, tf, cda, cc, rfl, lk, hcd, hp, har, hcode, hvs, hfile, hcell, hl, S⟩ := F.ex
  obtain ⟨nm, q, N, bs, bm, sn, sub, ab, col, dd, k0, k1, k2, k3, k5, hC, hbm⟩ := J.T.cls
  obtain ⟨cdD, hD⟩ := F.cd
  obtain ⟨mb, hB, hsb⟩ := e0.mod.blt
  have kb : ∀ b o, base.get? b = some o → s.heap.get? b = some o := fun b o e => (e0.bs b o e).1
  obtain ⟨t1, he⟩ := exo_at e0.hok ha
  have hcl : PySem.W.clsIn K C = some { name := nm, bases := bs, mro := .ref C :: bm, ns := N, qualname := q, hasDict := true, slotNames := sn, subclasses := sub, abstract := ab, collection := col, hasDel := false } := by
    unfold PySem.W.clsIn
    rw [hC] <;> rfl
  cases r with
  | @cons _ u0 _ ur ra rr =>
    obtain rfl : u0 = Value.ref a := ra
    cases rr with
    | @cons _ u _ ur2 ry rn =>
      cases rn
      refine init_run (e0.mod.kin.keeps kb) (fun o z => ?_) (e0.mod.nolimit.keeps kb) (e0.mod.glob.keeps kb) ms (hB.keeps kb) ((hsb "super" (by decide)).trans (by decide +kernel))
        PySem.F.excBase_ValueError PySem.W.kxs_ValueError hC hcl hbm rfl J.T.sa J.nof hD J.sub F.opq J.sup J.ve S F.ne F.db lk hcd hp har hcode hvs hfile F.top hcell hl hr.depth hb he ?_
      · have y0 := (e0.bs a o (e0.mod.kin _ _ z)).2
        rw [ha] at y0
        cases y0
      · intro h' tk dx t2 k ld nd ea hn
        have hdx : H dx = none := e0.hok.fresh ld
        exact ⟨.non, _, rfl, e0.bare, exo_new_un ha hdx k ld ⟨_, ea⟩, exo_new_ok e0.hok ha hdx k ea ry hn, rfl, hq dx hdx nd⟩
end My
/-! An own exception class called with keyword arguments alone. -/
namespace My
open PySem PySem.W PySem.PX PySem.Calls PyProof.Rows
section
variable {prog : Program} {w : World} {M : Model} {A : Around} {E : Value → Shared → Prop} {R : Result → Shared → Prop}
variable {hp : Heap} {gs : Array GenState} {dr : Drawn} {tk : Nat} {os : OsState}
variable {nm qn : Str} {C N : Addr} {bs bm bb : List Value} {hd : Bool} {sn : List Str} {sb : List Value} {ab : Bool} {col : Option Bool} {dd : Option Addr}
variable {k0 k1 k2 k3 k5 : Option Value} {B ni ii : String} {kws : List (Str × Value)}
abbrev clsO (nm qn : Str) (C N : Addr) (bs bm : List Value) (hd : Bool) (sn : List Str) (sb : List Value) (ab : Bool) (col : Option Bool) (dd : Option Addr)
    (k0 k1 k2 k3 k5 : Option Value) (ni : String) : Obj := excClassObj nm qn C N bs bm hd sn sb ab col dd k0 k1 k2 k3 k5 ni
theorem kw_check_new (F : ExcBaseFacts B ni ii bb) (hT : ∀ X : String, bm.contains (.type X) = bb.contains (.type X))
    (hC : hp.get? C = some (clsO nm qn C N bs bm hd sn sb ab col dd k0 k1 k2 k3 k5 ni))
    {Q : Unit → Shared → Prop} (hq : Q () ⟨hp, gs, dr, tk, os⟩) :
    wpAny M A (checkBuiltinCall ni ⟨[.ref C], kws⟩) Q E ⟨hp, gs, dr, tk, os⟩ := by
  have inB : (Value.ref C :: bm).contains (.type B) = true := by
    rw [List.contains_cons, hT]
    simp only [F.hasB, Bool.or_true]
  have ns := F.noStar
  simp only [checkBuiltinCall, F.newKind, F.newSplit, F.newRow]
  repeat (first
    | refine wpAny_loadPart_at hC ?_
    | (refine wpAny_isSubtype_exc hC ?_
       rw [inB])
    | refine wpAny_staticBase_exc hC ?_
    | refine wpAny_madeBy_exc hC ?_
    | simp only [bne_self_eq_false, Bool.false_eq_true, if_false]
    | wp_step)
  all_goals exact hq
theorem kw_new (F : ExcBaseFacts B ni ii bb) (hT : ∀ X : String, bm.contains (.type X) = bb.contains (.type X))
    (hC : hp.get? C = some (clsO nm qn C N bs bm hd sn sb ab col dd k0 k1 k2 k3 k5 ni))
    (hR : R (.ok (.ret (.ref (hp.objs.size + 1)))) ⟨(hp.push (kdv_tup [])).push (excO C hp.objs.size), gs, dr, tk, os⟩) :
    codeAny (model prog w) A (.builtin ni ⟨[.ref C], kws⟩) R ⟨hp, gs, dr, tk, os⟩ := by
  have hends := F.ends
  have inB : (Value.ref C :: bm).contains (.type B) = true := by
    rw [List.contains_cons, hT]
    simp only [F.hasB, Bool.or_true]
  have noA : (Value.ref C :: bm).contains (.type "AttributeError") = false := by
    rw [List.contains_cons, hT, F.noAttr]
    rfl
  have noN : (Value.ref C :: bm).contains (.type "NameError") = false := by
    rw [List.contains_cons, hT, F.noName]
    rfl
  refine codeAny_builtinAt F.entry ?_
  unfold Builtin.«BaseException.__new__»
  refine PySem.wpAt_bind ?_
  show PySem.wpAt _ _ _ (stack >>= _) _ _ _
  refine PySem.wpAt_bind (PySem.wpAt_stack fun p below => ?_)
  refine PySem.wpAt_of_wpAny ?_
  wp_walk
  refine PySem.wpAt_of_wpAny ?_
  rw [F.owner]
  repeat (first
    | with_reducible refine wpAny_madeHere_exc F.canon hC ?_
    | with_reducible refine wpAny_loadPart_at hC ?_
    | (with_reducible refine wpAny_isSubtype_exc hC ?_
       first | rw [inB] | rw [noA] | rw [noN])
    | wp_step)
  show R _ _
  rw [Heap.size_push]
  exact hR
theorem kw_type_call {fI : Addr} {Q : Fin → Shared → Prop} (F : ExcBaseFacts B ni ii bb) (hT : ∀ X : String, bm.contains (.type X) = bb.contains (.type X))
    (hC : hp.get? C = some (clsO nm qn C N bs bm hd sn sb ab col dd k0 k1 k2 k3 k5 ni))
    (hi : Looks (model prog w) hp (typeLookup (.ref C) "__init__") (some (.ref fI)))
    (hb : ∀ z, Looks (model prog w) hp (bindSpecial (.ref fI) z) (.ref fI, [z]))
    (hq : codeAny (model prog w) A (.call (.ref fI) ⟨[.ref (hp.objs.size + 1)], kws⟩)
      (fun r s' => match r with
        | .ok (.ret v) => v = .none ∧ Q (.done (.ret (.ref (hp.objs.size + 1)))) s'
        | .ok _ => False
        | .error e => E e s')
      ⟨(hp.push (kdv_tup [])).push (excO C hp.objs.size), gs, dr, tk, os⟩) :
    wpAny (model prog w) A (Builtin.«type.__call__» ⟨[.ref C], kws⟩) Q E ⟨hp, gs, dr, tk, os⟩ := by
  repeat (first
    | with_reducible refine wpAny_loadPart_at hC ?_
    | with_reducible refine wpAny_madeBy_exc hC ?_
    | wp_step)
  refine codeAny_call_builtin_code (Code.quiet_builtin _ F.quiet) (kw_check_new F hT hC ?_)
  refine kw_new F hT hC ?_
  show wpAny _ _ _ _ _ _
  have kp : ∀ b o, hp.get? b = some o → ((hp.push (kdv_tup [])).push (excO C hp.objs.size)).get? b = some o :=
    fun b o e => Heap.get?_push_of_some _ (Heap.get?_push_of_some _ e)
  have hC1 := kp _ _ hC
  have hx : ((hp.push (kdv_tup [])).push (excO C hp.objs.size)).get? (hp.objs.size + 1) = some (excO C hp.objs.size) := by
    heap_get
  have inC : (Value.ref C :: bm).contains (.ref C) = true := by simp
  have hi1 := hi.keeps kp
  have hb1 := (hb (.ref (hp.objs.size + 1))).keeps kp
  unfold isInstance
  repeat (first
    | with_reducible refine wpAny_loadPart_at hx ?_
    | (with_reducible refine wpAny_isSubtype_exc hC1 ?_
       rw [inC])
    | wp_step)
  show wpAny _ _ (typeLookup (.ref C) _) _ _ _
  refine hi1.at ?_
  refine wpAny_holding (wpAny_bind (hb1.at ?_))
  refine wpAny_bind (wpAny_call (codeAny_mono hq fun r s' z => ?_))
  rcases r with e | (v | _ | _ | _)
  all_goals try exact z
  all_goals try exact z.elim
  obtain ⟨rfl, z⟩ := z
  first
    | exact wpAny_pure (wpAny_pure z)
    | (wp_walk
       exact z)
theorem kw_call {fI : Addr} (F : ExcBaseFacts B ni ii bb) (hT : ∀ X : String, bm.contains (.type X) = bb.contains (.type X))
    (hC : hp.get? C = some (clsO nm qn C N bs bm hd sn sb ab col dd k0 k1 k2 k3 k5 ni))
    (hi : Looks (model prog w) hp (typeLookup (.ref C) "__init__") (some (.ref fI)))
    (hb : ∀ z, Looks (model prog w) hp (bindSpecial (.ref fI) z) (.ref fI, [z]))
    (hq : codeAny (model prog w) (A.under (.builtin "type.__call__" ⟨[.ref C], kws⟩)) (.call (.ref fI) ⟨[.ref (hp.objs.size + 1)], kws⟩)
      (InitBack (hp.objs.size + 1) R) ⟨(hp.push (kdv_tup [])).push (excO C hp.objs.size), gs, dr, tk, os⟩) :
    codeAny (model prog w) A (.call (.ref C) ⟨[], kws⟩) R ⟨hp, gs, dr, tk, os⟩ := by
  have f1 := tc_lookup
  have f2 := tc_bind (.ref C)
  have hTy : (⟨hp, gs, dr, tk, os⟩ : Shared).TypeIs (.ref C) "type" := ⟨_, hC, rfl⟩
  refine codeAny_of_tree ?_
  show wpAny _ _ (callAny (.ref C) _) _ _ _
  repeat (any_goals (first
    | assumption
    | with_reducible refine wpAny_loadPart_at hC ?_
    | wp_step))
  refine ⟨rfl, ?_⟩
  refine codeAny_call_builtin_at (Code.quiet_builtin _ (by decide +kernel)) entry_typeCall ?_
  refine wpAny_check_type_call_sub hC (kw_type_call F hT hC hi hb ?_)
  refine codeAny_mono hq fun r s' z => ?_
  rcases r with e | (v | _ | _ | _) <;> exact z
end
section
variable {prog : Program} {w : World} {A : Around} {E : Value → Shared → Prop} {s : Shared} {K : Frag} {C L : Addr} {g0 : Heap}
variable {m : Str → Option Value} {news : List (Addr × Obj)} {B ni ii : String} {bb : List Value}
theorem kw_make {kws : List (Str × Value)} {fI : Addr} {Q : Value → Shared → Prop} (F : Fr g0 L s.heap m) (X0 : K.In g0) (N : News g0 L s.heap news)
    (FB : ExcBaseFacts B ni ii bb) (hi : findIn K (.ref C) "__init__" = some (some (.ref fI)))
    (q : excInitIn K C bb ni = true) (hf : isFn K (.ref fI) = true)
    (h : ∀ e t h', Fr g0 L h' m → News g0 L h' ((e, excObj C t none .none) :: (t, excTup []) :: news) → AllNe e news → AllNe t news → e ≠ t →
      codeAny (model prog w) (A.under (.builtin "type.__call__" ⟨[.ref C], kws⟩)) (.call (.ref fI) ⟨[.ref e], kws⟩)
        (InitBack e fun r s' => match r with
          | .ok (.ret v) => Q v s'
          | .ok _ => False
          | .error x => E x s') { s with heap := h' }) :
    wpAny (model prog w) A (call (.ref C) [] kws) Q E s := by
  have X := X0.keeps F.keep
  obtain ⟨nm, N', qn, bs, bm, hd, sn, sb, ab, col, dd, k0, k1, k2, k3, k5, hC, hT⟩ := excInit_of X q
  have hf' : (K.lookup fI).map (·.cls) = some (.type "function") := beq_iff_eq.mp hf
  obtain ⟨o, ho, hc⟩ := Option.map_eq_some_iff.mp hf'
  have hoI := X _ _ ho
  have hi' : Looks (model prog w) s.heap (typeLookup (.ref C) "__init__") (some (.ref fI)) := looks_findIn X hi
  obtain ⟨F2, N2, ne, nt⟩ := exc_two (o1 := excTup []) (o2 := excObj C s.heap.objs.size none .none) F N rfl rfl
  obtain ⟨hh, g, d, tk, os⟩ := s
  have hq := h _ _ _ F2 N2 ne nt (Nat.succ_ne_self _)
  refine wpAny_call (kw_call FB hT hC hi' (fun z => exc_bind hoI hc z) (codeAny_mono hq fun r s' z => ?_))
  rcases r with x | (v | _ | _ | _)
  all_goals try exact z
  all_goals exact z.elim
end
end My
namespace My
open PySem L2
/-- what isinstance and a field's reading ask of an exception class -/
structure ExcF (K : PySem.W.Frag) (C : Addr) : Prop where
  cls : (PySem.W.clsIn K C).isSome = true
  hga : PySem.W.findIn K (.ref C) "__getattribute__" = some (some (.builtin "BaseException.__getattribute__"))
  hgt : PySem.W.findIn K (.ref C) "__getattr__" = some none
  sub : PySem.W.subIn K (.ref C) (.type "BaseException") = some true
  ha : PySem.W.findIn K (.ref C) "__class__" = some (some (.builtin "object.__class__"))
  hn : PySem.W.specialIn K (.builtin "object.__class__") "__get__" = some (some (.builtin "getset_descriptor.__get__"))
  tk : PySem.W.takesIn K (.builtin "object.__class__") = some true
  hm : PySem.W.mroIn K C (.type "object") = some true
structure Made (K : PySem.W.Frag) (P : Program) (mg : Str → Option Value) (x fld : Str) (C fI : Addr) (fd : FuncData) : Prop where
  fn : InitFn K P C fld fI fd
  of : InitOf K C C fld
  bp : Binds K fd ["self", fld] []
  bk : ∀ (s : Shared) (u v : Value), BindsTo s fd ⟨[u], [(fld, v)]⟩ [("self", u), (fld, v)]
  at_ : mg x = some (.ref C)
  ini : PySem.W.findIn K (.ref C) "__init__" = some (some (.ref fI))
  ti : PySem.W.typeIn K (.ref fI) = some (.type "function")
  sup : mg "super" = none
  ex : ExcF K C
theorem upd_twice {H : Hp} {a d : Addr} {o1 o2 u : HO} (h : d ≠ a) : upd (upd (upd H a o1) d u) a o2 = upd (upd H d u) a o2 := by
  funext b
  by_cases e : b = a
  · rw [e, upd_same, upd_same]
  · rw [upd_ne e, upd_ne e]
    by_cases e2 : b = d
    · rw [e2, upd_same, upd_same]
    · rw [upd_ne e2, upd_ne e2, upd_ne e]
/-- C(e), C(f = e): a new exception, its field in its dict -/
def tExc (C : Addr) (fld : Str) (te : TE) : TE := fun σ H Q => te σ H fun y H1 =>
  ∀ a d, H1 a = none → H1 d = none → d ≠ a → Q (.ref a) (upd (upd H1 d (exd d [(fld, y)])) a (exo a C (some d)))
section
variable {X : Cx} {pins : List (Addr × Obj)} {σ : St} {H : Hp} {s : Shared} {x fld : Str} {C fI : Addr} {fd : FuncData} {Q : VK}
/-- the end of a make: __init__ has run -/
theorem made_back {a : Addr} {y : V} {s2 : Shared} {r : Result} {s' : Shared}
    (I2 : Inv X pins σ (upd H a (exo a C none)) s2) (hq : CR CX0 X.stack X.prog X.w (upd H a (exo a C none)) s2 (fun v H2 => v = .non ∧ Q (.ref a) H2) (fun _ _ _ => False) r s') :
    PySem.W.InitBack a (fun r s' => match r with
      | .ok (.ret v) => EP X pins σ Q v s'
      | .ok _ => False
      | .error e => X.xe e s') r s' := by
  cases r with
  | error er => exact hq.elim
  | ok fl =>
    cases fl with
    | ret u =>
      obtain ⟨v, H2, J, rv, ev, q⟩ := I2.after hq
      subst ev
      cases rv
      exact ⟨rfl, .ref a, H2, J, rfl, q⟩
    | next => exact hq.elim
    | brk => exact hq.elim
    | cont => exact hq.elim
theorem made_pos {y : V} {u : Value} (M : Made X.K X.prog X.mg x fld C fI fd) (hr : Room 1 X.A) (I : Inv X pins σ H s) (ry : RelV y u)
    (h : ∀ a d, H a = none → H d = none → d ≠ a → Q (.ref a) (upd (upd H d (exd d [(fld, y)])) a (exo a C (some d)))) :
    wpAny (model X.prog X.w) X.A (call (.ref C) [u]) (EP X pins σ Q) X.xe s := by
  obtain ⟨nm, q, N, bs, bm, sn, sub, ab, col, dd, k0, k1, k2, k3, k5, hC, hbm⟩ := M.of.T.cls
  obtain ⟨hp, g, dr, tk, os⟩ := s
  have hsz : hp.objs.size ≤ hp.objs.size + 1 := Nat.le_succ _
  have hn : H (hp.objs.size + 1) = none := I.hok.fresh hsz
  have kk : ∀ b o, hp.get? b = some o → ((hp.push (PySem.W.kdv_tup [u])).push (PySem.HandSPX.excO C hp.objs.size)).get? b = some o :=
    fun b o e => Heap.get?_push_of_some _ (Heap.get?_push_of_some _ e)
  have hget : ((hp.push (PySem.W.kdv_tup [u])).push (PySem.HandSPX.excO C hp.objs.size)).get? (hp.objs.size + 1) = some (PySem.HandSPX.excO C hp.objs.size) := by
    heap_get
  have I2 := I.laid (t' := tk) (a := hp.objs.size + 1) (o := exo (hp.objs.size + 1) C none) (h' := (hp.push (PySem.W.kdv_tup [u])).push (PySem.HandSPX.excO C hp.objs.size)) kk hsz (exo_ok hget)
  have G := init_ok (P := X.prog) (w := X.w) (mg := X.mg) (base := X.base) (CX := CX0) M.fn M.sup
  have hsp : spInit X.K C fld [.ref (hp.objs.size + 1), y] (upd H (hp.objs.size + 1) (exo (hp.objs.size + 1) C none)) (fun v H2 => v = .non ∧ Q (.ref (hp.objs.size + 1)) H2) (fun _ _ _ => False) := by
    refine ⟨_, C, y, rfl, M.of, upd_same, fun d hd nd => ⟨rfl, ?_⟩⟩
    rw [upd_twice nd]
    rw [upd_ne nd] at hd
    exact h _ d hn hd nd
  refine wpAny_call (PySem.HandSPX.call_own PySem.F.excBase_ValueError (fun Y => PySem.HandSPX.refsVE_contains Y bm hbm) (I.kIn _ _ hC) (PySem.W.looks_findIn I.kIn M.ini)
    (fun z => PySem.W.bind_fn I.kIn z M.ti) (by show 1 ≤ sizeLine; rw [sizeLine_eq]; omega) (codeAny_mono (G.run _ X.stack _ _ ⟨[.ref (hp.objs.size + 1), u], []⟩ [.ref (hp.objs.size + 1), u] [.ref (hp.objs.size + 1), y] _ (fun _ _ _ => False) (hr.make C [u] [])
      (I2.env0.make C [u] []) (M.bp _ [.ref (hp.objs.size + 1), u] I2.kIn rfl) (.cons rfl (.cons ry .nil)) hsp) fun r s' hq => made_back (y := y) I2 hq))
theorem made_kw {y : V} {u : Value} (M : Made X.K X.prog X.mg x fld C fI fd) (hr : Room 1 X.A) (I : Inv X pins σ H s) (ry : RelV y u)
    (h : ∀ a d, H a = none → H d = none → d ≠ a → Q (.ref a) (upd (upd H d (exd d [(fld, y)])) a (exo a C (some d)))) :
    wpAny (model X.prog X.w) X.A (call (.ref C) [] [(fld, u)]) (EP X pins σ Q) X.xe s := by
  obtain ⟨nm, q, N, bs, bm, sn, sub, ab, col, dd, k0, k1, k2, k3, k5, hC, hbm⟩ := M.of.T.cls
  obtain ⟨hp, g, dr, tk, os⟩ := s
  have hsz : hp.objs.size ≤ hp.objs.size + 1 := Nat.le_succ _
  have hn : H (hp.objs.size + 1) = none := I.hok.fresh hsz
  have kk : ∀ b o, hp.get? b = some o → ((hp.push (PySem.W.kdv_tup [])).push (PySem.PX.excO C hp.objs.size)).get? b = some o :=
    fun b o e => Heap.get?_push_of_some _ (Heap.get?_push_of_some _ e)
  have hget : ((hp.push (PySem.W.kdv_tup [])).push (PySem.PX.excO C hp.objs.size)).get? (hp.objs.size + 1) = some (PySem.PX.excO C hp.objs.size) := by
    heap_get
  have I2 := I.laid (t' := tk) (a := hp.objs.size + 1) (o := exo (hp.objs.size + 1) C none) (h' := (hp.push (PySem.W.kdv_tup [])).push (PySem.PX.excO C hp.objs.size)) kk hsz (exo_ok hget)
  have G := init_ok (P := X.prog) (w := X.w) (mg := X.mg) (base := X.base) (CX := CX0) M.fn M.sup
  have hsp : spInit X.K C fld [.ref (hp.objs.size + 1), y] (upd H (hp.objs.size + 1) (exo (hp.objs.size + 1) C none)) (fun v H2 => v = .non ∧ Q (.ref (hp.objs.size + 1)) H2) (fun _ _ _ => False) := by
    refine ⟨_, C, y, rfl, M.of, upd_same, fun d hd nd => ⟨rfl, ?_⟩⟩
    rw [upd_twice nd]
    rw [upd_ne nd] at hd
    exact h _ d hn hd nd
  refine wpAny_call (kw_call PySem.F.excBase_ValueError (fun Y => PySem.HandSPX.refsVE_contains Y bm hbm) (I.kIn _ _ hC) (PySem.W.looks_findIn I.kIn M.ini)
    (fun z => PySem.W.bind_fn I.kIn z M.ti) (codeAny_mono (G.run _ X.stack _ _ ⟨[.ref (hp.objs.size + 1)], [(fld, u)]⟩ [.ref (hp.objs.size + 1), u] [.ref (hp.objs.size + 1), y] _ (fun _ _ _ => False) (hr.make C [] [(fld, u)])
      (I2.env0.make C [] [(fld, u)]) (M.bk _ _ _) (.cons rfl (.cons ry .nil)) hsp) fun r s' hq => made_back (y := y) I2 hq))
end
section
variable {X : Cx} {x fld : Str} {C fI : Addr} {fd : FuncData} {e : Expr} {te : TE} {p pos kpos : Pos}
/-- C(e) -/
theorem pe_excV (M : Made X.K X.prog X.mg x fld C fI fd) (hr : Room 1 X.A) (hg : Gl X x) (he : PE X e te)
    (hdb : (x == ("__debug__" : Str)) = false := by decide) (hs : starEach [e] X.env = (false, eval e X.env) :: starEach [] X.env := by rfl) :
    PE X (.Call (.Name x p) [e] [] pos) (tExc C fld te) := by
  refine ⟨fun pins s σ H Q I h => ?_⟩
  refine wpAny_Call_Name_kw (ld_glob I hg M.at_ ?_ hdb)
  refine PySem.W.callWith_K (h₀ := X.base) I.ok.mod.kin M.of.T.kC ?_ hs (by rfl)
  rw [hs]
  show wpAny _ _ (spliced ((false, eval e X.env) :: backTo pos (starEach [] X.env))) _ _ s
  refine Calls.spliced_cons (thn (he.run pins s σ H _ I h) fun u s1 ⟨v, H1, I1, r1, q1⟩ => ?_)
  refine Calls.spliced_nil ⟨I1.kIn, ?_⟩
  exact made_pos M hr I1 r1 q1
/-- C(f = e) -/
theorem pe_excK (M : Made X.K X.prog X.mg x fld C fI fd) (hr : Room 1 X.A) (hg : Gl X x) (he : PE X e te)
    (hdb : (x == ("__debug__" : Str)) = false := by decide)
    (hall : (backToKw pos (keywordEach [⟨some fld, e, kpos⟩] X.env)).all (·.1.isSome) = true := by rfl) (hks : (backToKw pos (keywordEach [⟨some fld, e, kpos⟩] X.env)).filterMap (·.1) = [fld] := by rfl)
    (hpl : ((backTo pos (starEach [] X.env)).any (·.1) || (backToKw pos (keywordEach [⟨some fld, e, kpos⟩] X.env)).any (·.1.isNone)) = false := by rfl) :
    PE X (.Call (.Name x p) [] [⟨some fld, e, kpos⟩] pos) (tExc C fld te) := by
  refine ⟨fun pins s σ H Q I h => ?_⟩
  refine wpAny_Call_Name_kw (ld_glob I hg M.at_ ?_ hdb)
  refine PySem.W.callWith_KW0 (h₀ := X.base) I.ok.mod.kin M.of.T.kC hall ?_ hpl
  have hk : PK X [⟨some fld, e, kpos⟩] (tCons te tNil) := pk_cons he pk_nil
  refine thn (hk.run pos pins s σ H (fun vs H1 => match vs with
    | [y] => ∀ a d, H1 a = none → H1 d = none → d ≠ a → Q (.ref a) (upd (upd H1 d (exd d [(fld, y)])) a (exo a C (some d)))
    | _ => False) I h) fun ws s2 ⟨zs, H2, I2, rz, q2⟩ => ⟨I2.kIn, ?_⟩
  rw [hks]
  cases rz with
  | nil => exact q2.elim
  | @cons y u _ ur ry rn =>
    cases rn with
    | nil => exact made_kw M hr I2 ry q2
    | cons _ _ => exact q2.elim
end
/-! ### a field, isinstance -/
def tExoF (K : PySem.W.Frag) (f : Str) (te : TE) : TE := fun σ H Q => te σ H fun x H1 => ∃ (a C d : Addr) (fs : List (Str × V)) (v : V), x = .ref a ∧ ExcF K C ∧ PySem.W.hasDictIn K C = true ∧
  PySem.W.findIn K (.ref C) f = some none ∧ H1 a = some (exo a C (some d)) ∧ H1 d = some (exd d fs) ∧ fs.lookup f = some v ∧ Q v H1
section
variable {X : Cx} {e : Expr} {te : TE} {pos : Pos} {f : Str} {pins : List (Addr × Obj)} {σ : St} {H : Hp} {s : Shared}
theorem exo_inst {a C d : Addr} {fs : List (Str × V)} (I : Inv X pins σ H s) (ea : H a = some (exo a C (some d))) (ed : H d = some (exd d fs)) :
    ∃ (t1 : Addr) (od : Obj) (mA : Str → Option Value),
      PySem.W.InstAt s.heap a ({ cls := .ref C, dict := some d, data := .fields #[.ref t1, .none, .none, .none, .bool false, .none] } : Obj) C (some od) ∧
      (∀ n, PySem.W.lookIn n od = some (mA n)) ∧ ∀ n, RelO (fs.lookup n) (mA n) := by
  obtain ⟨t1, ho⟩ := exo_at I.hok ea
  obtain ⟨mA, hns, rel⟩ := exd_at I.hok ed
  obtain ⟨od, hod, hl⟩ := lookIn_ns hns
  exact ⟨t1, od, mA, ⟨ho, rfl, rfl, hod⟩, hl, rel⟩
theorem pe_exoF (he : PE X e te) (hb : attributeBase e f X.env (eval e X.env) = eval e X.env := by rfl) : PE X (.Attribute e f pos) (tExoF X.K f te) := by
  refine ⟨fun pins s σ H Q I h => ?_⟩
  refine attr_of hb (thn (he.run pins s σ H _ I h) fun u s1 hh => ?_)
  obtain ⟨x, H1, I1, rx, a, C, d, fs, v, rfl, T, hd, hno, ea, ed, l, q⟩ := hh
  obtain rfl : u = Value.ref a := rx
  obtain ⟨t1, od, mA, J, hl, rel⟩ := exo_inst I1 ea ed
  have r0 := rel f
  rw [l] at r0
  obtain ⟨u, hu, ru⟩ := RelO.some_of (v := v) (o := mA f) r0
  refine PySem.HandSPX.exc_get I1.kIn J T.hga T.hgt T.sub (PySem.W.findObj_own hd hno rfl ?_) (handed_of ru) ⟨v, H1, I1.tok _, ru, q⟩
  rw [hl, hu]
/-- isinstance(e, c) of an exception e that has a field -/
def rIsX (K : PySem.W.Frag) : List V → Hp → VK → Prop := fun xs H Q => ∃ (a C d : Addr) (fs : List (Str × V)) (c : V) (cv : Value) (b : Bool), xs = [.ref a, c] ∧ ClsV c cv ∧ ExcF K C ∧
  H a = some (exo a C (some d)) ∧ H d = some (exd d fs) ∧ PySem.W.kitOne K (.ref C) cv = some b ∧ Q (.bl b) H
theorem call_isX : CallR X (.builtin "isinstance") (rIsX X.K) := by
  intro pins s σ H xs us Q I r h
  obtain ⟨a, C, d, fs, c, cv, b, rfl, k, T, ea, ed, e, q⟩ := h
  obtain ⟨u1, u2, rfl, r1, r2⟩ := vals2 r
  obtain rfl : u1 = Value.ref a := r1
  have e2 := k.eq r2
  subst e2
  obtain ⟨t1, od, mA, J, _, _⟩ := exo_inst I ea ed
  exact PySem.W.kia_one (PySem.W.kitx_exc T.cls T.hga T.hgt T.sub T.ha T.hn T.tk T.hm) I.kIn J e (fun z => nomatch z) fun tk => ⟨.bl b, H, I.tok tk, rfl, q⟩
end
/-! ### an exception of a class without an __init__ of the program -/
section
variable {X : Cx} {x : Str} {C : Addr} {p pos : Pos} {bb : List Value} {B ni ii : String}
/-- X() -/
theorem pe_exc0 (F : ExcBaseFacts B ni ii bb) (q : PySem.W.excIn X.K C bb ni = true) (gC : X.mg x = some (.ref C)) (kC : PySem.W.keepIn X.K (.ref C) = true) (hg : Gl X x)
    (hdb : (x == ("__debug__" : Str)) = false := by decide) :
    PE X (.Call (.Name x p) [] [] pos) (fun _ H Q => ∀ a, H a = none → Q (.ref a) (upd H a (ExO (.ref C) a))) := by
  refine ⟨fun pins s σ H Q I h => ?_⟩
  refine wpAny_Call_Name_kw (ld_glob I hg gC ?_ hdb)
  refine PySem.W.callWith_KW0 (h₀ := X.base) (kws := []) I.ok.mod.kin kC (by rfl) ?_ (by rfl)
  refine wpAny_evalAll_nil ⟨I.kIn, ?_⟩
  show wpAny _ _ (call (.ref C) [] []) _ _ _
  obtain ⟨bm, N, nm, qn, bs, hdct, sn, sub, ab, col, dd, k0, k1, k2, k3, k5, mN, hC, hN, hni, T⟩ := exc_obj I.kIn q
  refine wpAny_call_exc_subT F T hC hN hni (fun h' a hm => ?_) (by show 0 ≤ sizeLine; exact Nat.zero_le _)
  have hn : H a = none := I.hok.gone hm.new
  obtain ⟨t, ht, _, _⟩ := hm.there
  refine ⟨.ref a, _, I.laidN (t' := s.toks) hm.keeps hm.new hn ?_, rfl, h a hn⟩
  exact exO_ok ht ⟨rfl, rfl⟩ rfl rfl rfl (show 4 < 6 by decide)
/-- isinstance(e, c) of an exception without fields -/
def rIsX0 (K : PySem.W.Frag) : List V → Hp → VK → Prop := fun xs H Q => ∃ (a C : Addr) (c : V) (cv : Value) (b : Bool), xs = [.ref a, c] ∧ ClsV c cv ∧ ExcF K C ∧
  H a = some (ExO (.ref C) a) ∧ PySem.W.kitOne K (.ref C) cv = some b ∧ Q (.bl b) H
theorem call_isX0 : CallR X (.builtin "isinstance") (rIsX0 X.K) := by
  intro pins s σ H xs us Q I r h
  obtain ⟨a, C, c, cv, b, rfl, k, T, ea, e, q⟩ := h
  obtain ⟨u1, u2, rfl, r1, r2⟩ := vals2 r
  obtain rfl : u1 = Value.ref a := r1
  have e2 := k.eq r2
  subst e2
  obtain ⟨⟨oe, vs, ho, hz, hd, _⟩, _, _⟩ := I.hok a _ ea
  have J : PySem.W.InstAt s.heap a oe C none := by
    refine ⟨ho, hz.1, ?_, ?_⟩
    · unfold PySem.W.notCls
      rw [hd] <;> rfl
    · rw [hz.2]
      exact True.intro
  exact PySem.W.kia_one (PySem.W.kitx_exc T.cls T.hga T.hgt T.sub T.ha T.hn T.tk T.hm) I.kIn J e (fun z => nomatch z) fun tk => ⟨.bl b, H, I.tok tk, rfl, q⟩
/-- isinstance(e, c) of both kinds -/
def rIsXA (K : PySem.W.Frag) : List V → Hp → VK → Prop := fun xs H Q => rIsX K xs H Q ∨ rIsX0 K xs H Q
theorem call_isXA : CallR X (.builtin "isinstance") (rIsXA X.K) := by
  intro pins s σ H xs us Q I r h
  rcases h with h | h
  · exact call_isX pins s σ H xs us Q I r h
  · exact call_isX0 pins s σ H xs us Q I r h
end
end My
/-! Readings of tracked lists and tuples that a simp can follow. -/
namespace My
open PySem L2
section
variable {X : Cx}
theorem IxR.imp {r r' : R2} (h : IxR X r) (k : ∀ x y H Q, r' x y H Q → r x y H Q) : IxR X r' := by
  intro value slice pins s σ H x y v u Q I rx ry q
  exact h value slice pins s σ H x y v u Q I rx ry (k _ _ _ _ q)
theorem OpR.imp {f : Value → Value → Sem Value} {r r' : R2} (h : OpR X f r) (k : ∀ x y H Q, r' x y H Q → r x y H Q) : OpR X f r' := by
  intro pins s σ H x y v u Q I rx ry q
  exact h pins s σ H x y v u Q I rx ry (k _ _ _ _ q)
theorem CallR.imp {f : Value} {r r' : List V → Hp → VK → Prop} (h : CallR X f r) (k : ∀ xs H Q, r' xs H Q → r xs H Q) : CallR X f r' := by
  intro pins s σ H xs us Q I rx q
  exact h pins s σ H xs us Q I rx (k _ _ _ q)
/-- xs[i], xs tracked -/
def fIxL : R2 := fun x y H Q => ∃ p i xs v, x = .ref p ∧ y = .int i ∧ H p = some (.lst xs) ∧ atI xs i = some v ∧ Q v H
theorem ixL : IxR X fIxL := by
  refine IxR.imp ix_list ?_
  rintro x y H Q ⟨p, i, xs, v, e1, e2, e3, e4, q⟩
  exact ⟨p, xs, i, v, e1, e2, SqL.of e3, e4, q⟩
def fIxT : R2 := fun x y H Q => ∃ p i xs v, x = .ref p ∧ y = .int i ∧ H p = some (.tup xs) ∧ atI xs i = some v ∧ Q v H
theorem ixT : IxR X fIxT := by
  refine IxR.imp ix_tup ?_
  rintro x y H Q ⟨p, i, xs, v, e1, e2, e3, e4, q⟩
  exact ⟨p, xs, i, v, e1, e2, SqT.of e3, e4, q⟩
/-- len(xs), xs a tracked list -/
def fLenL : List V → Hp → VK → Prop := fun xs H Q => ∃ p ys, xs = [.ref p] ∧ H p = some (.lst ys) ∧ Q (.int ys.length) H
theorem lenL : CallR X (.builtin "len") fLenL := by
  refine CallR.imp call_len_seq ?_
  rintro xs H Q ⟨p, ys, e1, e2, q⟩
  exact ⟨p, ys, e1, .inl (SqL.of e2), q⟩
def fLenT : List V → Hp → VK → Prop := fun xs H Q => ∃ p ys, xs = [.ref p] ∧ H p = some (.tup ys) ∧ Q (.int ys.length) H
theorem lenT : CallR X (.builtin "len") fLenT := by
  refine CallR.imp call_len_seq ?_
  rintro xs H Q ⟨p, ys, e1, e2, q⟩
  exact ⟨p, ys, e1, .inr (SqT.of e2), q⟩
/-- a ** n of any size -/
def CPowW (i j : Int) : Prop := 0 ≤ j ∧ (Builtin.Int.intBits i : Int) * j ≤ 2 ^ 27
theorem op_powW : OpR X (binaryOp .Pow) (rI CPowW fun i j => .int (i ^ j.toNat)) := by
  intro pins s σ H x y v u Q I rx ry q
  obtain ⟨i, j, rfl, rfl, ⟨c1, c2⟩, q⟩ := q
  obtain ⟨t, rfl⟩ := rx
  obtain ⟨t', rfl⟩ := ry
  exact PyProof.Rows.pow_int c1 c2 ⟨.int (i ^ j.toNat), H, I.tok _, ⟨_, rfl⟩, q⟩
/-- two lists of the very same values are not unequal -/
def SameV (x : V) : Prop := flatB x = true ∨ ∃ a, x = .ref a
theorem eq_sameV {A : Around} {s : Shared} {x : V} {u u' : Value} (h : SameV x) (r : RelV x u) (r' : RelV x u') : SeqAt.EqAt A s u u' true := by
  rcases h with f | ⟨a, rfl⟩
  · exact eqAt_same r r' f
  · obtain rfl : u = Value.ref a := r
    obtain rfl : u' = Value.ref a := r'
    exact SeqAt.EqAt.same _
theorem items_sameV {A : Around} {s : Shared} : ∀ {xs : List V} {us ws : List Value}, (∀ x ∈ xs, SameV x) → Vals xs us → Vals xs ws →
    ∀ j (h1 : j < us.length) (h2 : j < ws.length), SeqAt.EqAt A s us[j] ws[j] true
  | _, _, _, _, .nil, .nil, j, h1, _ => absurd h1 (Nat.not_lt_zero _)
  | _, _, _, hx, .cons r k, .cons r' k', 0, _, _ => eq_sameV (hx _ (.head _)) r r'
  | _, _, _, hx, .cons r k, .cons r' k', j + 1, h1, h2 => items_sameV (fun x m => hx x (.tail _ m)) k k' j (Nat.lt_of_succ_lt_succ h1) (Nat.lt_of_succ_lt_succ h2)
def rNeSame : R2 := fun x y H Q => ∃ a b xs, x = .ref a ∧ y = .ref b ∧ H a = some (.lst xs) ∧ H b = some (.lst xs) ∧ (∀ x ∈ xs, SameV x) ∧ Q (.bl false) H
theorem op_neSame (hu : X.A.units < cLine) : OpR X (compareOp .NotEq) rNeSame := by
  intro pins s σ H x y v u Q I rx ry h
  obtain ⟨a, b, xs, rfl, rfl, ha, hb, hx, q⟩ := h
  obtain rfl : v = Value.ref a := rx
  obtain rfl : u = Value.ref b := ry
  obtain ⟨us, r1, p1, _⟩ := I.list (SqL.of ha)
  obtain ⟨ws, r2, p2, _⟩ := I.list (SqL.of hb)
  have hsz : us.toArray.size = ws.toArray.size := by
    rw [List.size_toArray, List.size_toArray, ← r1.length, ← r2.length]
  refine SeqAt.RcNeAt.lists (e := fun _ => true) p1.isList p2.isList hsz hu (fun j h1 h2 => ?_) X.prog X.w _ _ ?_
  · have k := items_sameV (A := X.A.in1) (s := s) hx r1 r2 j (by simpa using h1) (by simpa using h2)
    simpa using k
  · rw [show ((List.range us.toArray.size).all fun _ => true) = true from List.all_eq_true.mpr fun _ _ => rfl]
    exact ⟨.bl false, H, I, rfl, q⟩
end
/-- the exception at a is of the class at C -/
def ExAt (K : PySem.W.Frag) (H : Hp) (a C : Addr) : Prop := ExcF K C ∧ ((∃ (d : Addr) (fs : List (Str × V)), H a = some (exo a C (some d)) ∧ H d = some (exd d fs)) ∨ H a = some (ExO (.ref C) a))
theorem ExAt.same {K : PySem.W.Frag} {H H' : Hp} {a C : Addr} (h : ExAt K H a C) (s : Same H H') : ExAt K H' a C := by
  obtain ⟨T, h⟩ := h
  refine ⟨T, ?_⟩
  rcases h with ⟨d, fs, h1, h2⟩ | h1
  · exact .inl ⟨d, fs, s _ _ h1, s _ _ h2⟩
  · exact .inr (s _ _ h1)
section
variable {X : Cx}
/-- isinstance(e, D), e at a of the class at C, D one of some classes whose answers are known -/
def rIsP (K : PySem.W.Frag) (a C : Addr) (ok : V → Bool → Prop) : List V → Hp → VK → Prop := fun xs H Q => ∃ c b, xs = [.ref a, c] ∧ ok c b ∧ ExAt K H a C ∧ Q (.bl b) H
theorem call_isP {a C : Addr} {ok : V → Bool → Prop} (h : ∀ c b, ok c b → ∃ cv, ClsV c cv ∧ PySem.W.kitOne X.K (.ref C) cv = some b) : CallR X (.builtin "isinstance") (rIsP X.K a C ok) := by
  refine CallR.imp call_isXA ?_
  rintro xs H Q ⟨c, b, rfl, hc, ⟨T, e⟩, q⟩
  obtain ⟨cv, k, e2⟩ := h c b hc
  rcases e with ⟨d, fs, h1, h2⟩ | h1
  · exact .inl ⟨a, C, d, fs, c, cv, b, rfl, k, T, h1, h2, e2, q⟩
  · exact .inr ⟨a, C, c, cv, b, rfl, k, T, h1, e2, q⟩
end
theorem pe_gref {X : Cx} {x : Str} {C : Addr} {pos : Pos} (hg : Gl X x) (hm : X.mg x = some (.ref C)) (hd : (x == ("__debug__" : Str)) = false := by decide) : PE X (.Name x pos) (tC (.ref C)) :=
  pe_glob (v := .ref C) hg hm rfl hd
section
variable {X : Cx}
def rIsQ (K : PySem.W.Frag) (ok : Addr → V → Bool → Prop) : List V → Hp → VK → Prop := fun xs H Q => ∃ a C c b, xs = [.ref a, c] ∧ ok C c b ∧ ExAt K H a C ∧ Q (.bl b) H
theorem call_isQ {ok : Addr → V → Bool → Prop} (h : ∀ C c b, ok C c b → ∃ cv, ClsV c cv ∧ PySem.W.kitOne X.K (.ref C) cv = some b) : CallR X (.builtin "isinstance") (rIsQ X.K ok) := by
  refine CallR.imp call_isXA ?_
  rintro xs H Q ⟨a, C, c, b, rfl, hc, ⟨T, e⟩, q⟩
  obtain ⟨cv, k, e2⟩ := h C c b hc
  rcases e with ⟨d, fs, h1, h2⟩ | h1
  · exact .inl ⟨a, C, d, fs, c, cv, b, rfl, k, T, h1, h2, e2, q⟩
  · exact .inr ⟨a, C, c, cv, b, rfl, k, T, h1, e2, q⟩
end
theorem same_upd2 {H : Hp} {a d : Addr} {o u : HO} (na : H a = none) (nd : H d = none) : Same H (upd (upd H d u) a o) := by
  intro b x e
  rw [upd_ne (ne_of_none e na)]
  rw [upd_ne (ne_of_none e nd)]
  exact e
theorem same_refl {H : Hp} : Same H H := fun _ _ e => e
theorem kinds_eq {cs : List Addr} (nd : cs.Nodup) {i : Nat} {C : Addr} (hi : cs[i]? = some C) :
    cs.map (fun D => V.bl (decide (C = D))) = (List.range cs.length).map (fun j : Nat => V.bl (decide (V.int (0 + (i : Int)) = V.int (0 + (j : Int))))) := by
  apply List.ext_getElem?
  intro n
  rw [List.getElem?_map, List.getElem?_map]
  by_cases hn : n < cs.length
  · rw [List.getElem?_eq_getElem hn, List.getElem?_eq_getElem (by simpa using hn)]
    obtain ⟨hi', rfl⟩ := List.getElem?_eq_some_iff.mp hi
    have e : decide (cs[i] = cs[n]) = decide (V.int (0 + (i : Int)) = V.int (0 + (n : Int))) := by
      refine decide_eq_decide.mpr ⟨fun h => ?_, fun h => ?_⟩
      · have pw := List.pairwise_iff_getElem.mp nd
        have : i = n := by
          rcases Nat.lt_trichotomy i n with l | l | l
          · exact absurd h (pw i n hi' hn l)
          · exact l
          · exact absurd h.symm (pw n i hn hi' l)
        rw [this]
      · have h2 := V.int.inj h
        have : i = n := by omega
        subst this
        rfl
    simp [e]
  · rw [List.getElem?_eq_none (by omega), List.getElem?_eq_none (by simpa using Nat.le_of_not_lt hn)]
    rfl
theorem paired_get {α β : Type} {R : α → β → Prop} : ∀ {xs : List α} {ys : List β}, Paired R xs ys → ∀ {i : Nat} {x : α}, xs[i]? = some x → ∃ y, ys[i]? = some y ∧ R x y
  | _, _, .nil, i, x, h => by simp at h
  | _, _, .cons r k, 0, x, h => by
    cases h
    exact ⟨_, rfl, r⟩
  | _, _, .cons r k, i + 1, x, h => paired_get k (i := i) h
/-! ### the facts of the written part, gathered -/
section
variable {P : Program} {K : PySem.W.Frag} {h : Heap} {mg : Str → Option Value}
theorem excF_mk {C : Addr} {cd : ClassData} (a : PySem.W.clsIn K C = some cd)
    (hga : PySem.W.findIn K (.ref C) "__getattribute__" = some (some (.builtin "BaseException.__getattribute__")))
    (hgt : PySem.W.findIn K (.ref C) "__getattr__" = some none)
    (sub : PySem.W.subIn K (.ref C) (.type "BaseException") = some true)
    (ha : PySem.W.findIn K (.ref C) "__class__" = some (some (.builtin "object.__class__")))
    (hn : PySem.W.specialIn K (.builtin "object.__class__") "__get__" = some (some (.builtin "getset_descriptor.__get__")))
    (tk : PySem.W.takesIn K (.builtin "object.__class__") = some true)
    (hm : PySem.W.mroIn K C (.type "object") = some true) : ExcF K C :=
  ⟨by rw [a]; rfl, hga, hgt, sub, ha, hn, tk, hm⟩
theorem made_mk {x fld : Str} (X : K.In h) (G : h.Ns mainGlobals mg)
    {C fI cda cc N : Addr} {msg name qual file : Str} {j : Nat} {p0 p1 p2 p3 p4 p5 q0 q1 q2 q3 : Pos} {params : Arguments} {ar : Arg} {scope : Scope} {dV kV doc pm ct oc ccl cl : Value} {an od cdd cld : Option Addr}
    {osl ccs csl : Array (Option Value)} {vs : Array Value} {tf : Tok} {cd : ClassData} {nm qn : Str} {bs bm : List Value} {sn : List Str} {sb : List Value} {ab : Bool} {col : Option Bool} {dd : Option Addr} {k0 k1 k2 k3 k5 : Option Value}
    (a1 : PySem.W.nsIn K mainGlobals x = some (some (.ref C)))
    (a2 : PySem.W.findIn K (.ref C) "__init__" = some (some (.ref fI)))
    (a3 : K.lookup fI = some ⟨oc, od, .func (PySem.W.ksFn name qual params (initBody msg fld j p0 p1 p2 p3 p4 p5 q0 q1 q2 q3) scope dV kV doc pm an (.ref cda) ct cc), osl⟩)
    (a4 : PySem.W.codeIn K (.ref cda) qual = true)
    (a7 : K.lookup cda = some ⟨ccl, cdd, .fields vs, ccs⟩)
    (a10 : K.lookup cc = some ⟨cl, cld, .cell (some (.ref C)), csl⟩)
    (a13 : PySem.W.clsIn K C = some cd)
    (b1 : K.lookup C = some (excClassObj nm qn C N bs bm true sn sb ab col dd k0 k1 k2 k3 k5 "ValueError.__new__"))
    (b3 : PySem.W.findIn K (.ref C) "__setattr__" = some (some (.builtin "object.__setattr__")))
    (b5 : PySem.W.typeIn K (.ref C) = some (.type "type"))
    (b6 : PySem.W.keepIn K (.ref C) = true)
    (c1 : PySem.W.mroIn K C (.ref C) = some true)
    (c3 : PySem.W.subIn K (.ref C) (.type "ValueError") = some true)
    (c4 : PySem.W.findIn K (.ref C) fld = some none)
    (ti : PySem.W.typeIn K (.ref fI) = some (.type "function"))
    (zs : PySem.W.nsIn K mainGlobals "super" = some none)
    (zo : PySem.W.nsIn K cStatics "thirdparty.any" = some none)
    (ex : ExcF K C)
    (a5 : (params.posonlyargs ++ params.args).head? = some ar) (a6 : ar.arg = "self")
    (a8 : vs[2]? = some (.str file tf)) (a9 : ((P.main.file : Str) == file) = true)
    (a11 : (p2.endLine == p4.line) = true) (a12 : InitScope scope fld)
    (a14 : (P.main.scope.names.lookup ("super" : Str)).isSome = false)
    (a16 : fld ≠ "self") (a17 : (fld == ("__debug__" : Str)) = false)
    (b2 : PySem.HandSPX.refsVE bm = true)
    (c2 : PySem.W.ks_superIn K C C "__init__" = some (some (.builtin "ValueError.__init__")))
    (e1 : ∀ us : List Value, us.length = 2 → bindArgs (PySem.W.ksFn name qual params (initBody msg fld j p0 p1 p2 p3 p4 p5 q0 q1 q2 q3) scope dV kV doc pm an (.ref cda) ct cc) ⟨us, []⟩ = pure ((["self", fld] : List Str).zip us))
    (e2 : ∀ u v : Value, bindArgs (PySem.W.ksFn name qual params (initBody msg fld j p0 p1 p2 p3 p4 p5 q0 q1 q2 q3) scope dV kV doc pm an (.ref cda) ct cc) ⟨[u], [(fld, v)]⟩ = pure ([("self", u), (fld, v)] : List (Str × Value))) :
    Made K P mg x fld C fI (PySem.W.ksFn name qual params (initBody msg fld j p0 p1 p2 p3 p4 p5 q0 q1 q2 q3) scope dV kV doc pm an (.ref cda) ct cc) where
  fn := ⟨⟨msg, name, qual, file, j, p0, p1, p2, p3, p4, p5, q0, q1, q2, q3, params, ar, scope, dV, kV, doc, pm, ct, oc, ccl, cl, an, od, cdd, cld, osl, ccs, csl, vs, tf, cda, cc, rfl, a3, a4, a5, a6, a7, a8, a9, a10, a11, a12⟩, ⟨cd, a13⟩, a14, zo, a16, a17⟩
  of := ⟨⟨⟨nm, qn, N, bs, bm, sn, sb, ab, col, dd, k0, k1, k2, k3, k5, b1, b2⟩, b3, ex.sub, b5, b6⟩, c1, c2, c3, c4⟩
  bp := .all e1
  bk := fun s u v => BindsTo.of_eq (e2 u v)
  at_ := PySem.W.mg_of X G a1
  ini := a2
  ti := ti
  sup := PySem.W.mg_none_of X G zs
  ex := ex
/-- what isinstance answers for instances of the class at C -/
structure Kit (K : PySem.W.Frag) (cs : List Addr) (L C : Addr) : Prop where
  one : ∀ D ∈ cs, PySem.W.kitOne K (.ref C) (.ref D) = some (decide (C = D))
  root : PySem.W.kitOne K (.ref C) (.ref L) = some true
  ve : PySem.W.kitOne K (.ref C) (.type "ValueError") = some true
def IsCls (K : PySem.W.Frag) (D : Addr) : Prop := (PySem.W.clsIn K D).isSome = true ∧ PySem.W.typeIn K (.ref D) = some (.type "type")
theorem kitOne_ne {C D : Addr} {cd : ClassData} (hc : PySem.W.clsIn K C = some cd) (hm : cd.mro.isEmpty = false) (hD : IsCls K D) (ne : C ≠ D) :
    PySem.W.kitOne K (.ref C) (.ref D) = some (cd.mro.contains (.ref D)) := by
  unfold PySem.W.kitOne
  have e1 : (Value.ref C == Value.ref D) = false := by simpa using ne
  rw [e1, if_neg Bool.false_ne_true]
  have e2 : ((PySem.W.clsIn K D).isSome && PySem.W.typeIn K (.ref D) == some (.type "type")) = true := by
    rw [hD.1, hD.2]
    decide
  show (if ((PySem.W.clsIn K D).isSome && PySem.W.typeIn K (.ref D) == some (.type "type")) = true then PySem.W.mroIn K C (.ref D) else none) = _
  rw [if_pos e2]
  unfold PySem.W.mroIn
  rw [hc, Option.bind_some, hm, if_neg Bool.false_ne_true]
theorem kitOne_same {C : Addr} : PySem.W.kitOne K (.ref C) (.ref C) = some true := by
  unfold PySem.W.kitOne
  rw [beq_self_eq_true, if_pos rfl]
theorem kit_mk {cs : List Addr} {C L : Addr} {cd : ClassData} (hc : PySem.W.clsIn K C = some cd) (hm : cd.mro = .ref C :: .ref L :: PySem.PX.veTail)
    (hD : ∀ D ∈ cs, IsCls K D) (hL : IsCls K L) (nL : ∀ D ∈ cs, L ≠ D) (nC : C ≠ L)
    (ve : PySem.W.kitOne K (.ref C) (.type "ValueError") = some true) : Kit K cs L C := by
  refine ⟨fun D h => ?_, ?_, ve⟩
  · by_cases e : C = D
    · rw [e, kitOne_same]
      simp
    · rw [kitOne_ne hc (by rw [hm]; rfl) (hD D h) e, hm]
      have n1 : D ≠ C := fun z => e z.symm
      have n2 : D ≠ L := fun z => nL D h z.symm
      simp [List.contains_cons, PySem.PX.veTail, e, n1, n2]
  · rw [kitOne_ne hc (by rw [hm]; rfl) hL nC, hm]
    simp [List.contains_cons]
theorem kit_mkL {cs : List Addr} {L : Addr} {cd : ClassData} (hc : PySem.W.clsIn K L = some cd) (hm : cd.mro = .ref L :: PySem.PX.veTail)
    (hD : ∀ D ∈ cs, IsCls K D) (nL : ∀ D ∈ cs, L ≠ D)
    (ve : PySem.W.kitOne K (.ref L) (.type "ValueError") = some true) : Kit K cs L L := by
  refine ⟨fun D h => ?_, kitOne_same, ve⟩
  have e := nL D h
  have n1 : D ≠ L := fun z => e z.symm
  rw [kitOne_ne hc (by rw [hm]; rfl) (hD D h) e, hm]
  simp [List.contains_cons, PySem.PX.veTail, e, n1]
end
theorem kit_ve {K : PySem.W.Frag} {C : Addr} (h : PySem.W.subIn K (.ref C) (.type "ValueError") = some true) : PySem.W.kitOne K (.ref C) (.type "ValueError") = some true := by
  have e : PySem.W.kitMeta "ValueError" = true := by decide +kernel
  show (if (Value.ref C == Value.type "ValueError") = true then some true else (if PySem.W.kitMeta "ValueError" = true then PySem.W.subIn K (.ref C) (.type "ValueError") else none)) = some true
  rw [if_neg (by simp), if_pos e]
  exact h
end My
/-! Comprehensions by an invariant; what a list holds, item by item. -/
namespace My
open PySem L2 PySem.Calls PyProof.Rows
def Gives (F : Nat → V → Prop) (n : Nat) (ys : List V) : Prop := ys.length = n ∧ ∀ j y, ys[j]? = some y → F j y
theorem Gives.snoc {F : Nat → V → Prop} {n : Nat} {ys : List V} {y : V} (h : Gives F n ys) (hy : F n y) : Gives F (n + 1) (ys ++ [y]) := by
  obtain ⟨h1, h2⟩ := h
  refine ⟨by rw [List.length_append, h1]; rfl, fun j z hz => ?_⟩
  by_cases hj : j < ys.length
  · rw [List.getElem?_append_left hj] at hz
    exact h2 j z hz
  · have hj2 : j < (ys ++ [y]).length := (List.getElem?_eq_some_iff.mp hz).1
    rw [List.length_append, List.length_singleton] at hj2
    have e : j = ys.length := by omega
    rw [e, List.getElem?_append_right (Nat.le_refl _), Nat.sub_self] at hz
    cases hz
    rw [e, h1]
    exact hy
/-- each item is told by its place -/
theorem Gives.map {F : Nat → V → Prop} {n : Nat} {ys : List V} {f : Nat → V} (h : Gives F n ys) (hf : ∀ j y, j < n → F j y → y = f j) : ys = (List.range n).map f := by
  obtain ⟨h1, h2⟩ := h
  apply List.ext_getElem?
  intro j
  rw [List.getElem?_map]
  by_cases hj : j < ys.length
  · rw [List.getElem?_eq_getElem hj, List.getElem?_eq_getElem (by simpa [← h1] using hj)]
    have := hf j _ (by omega) (h2 j _ (List.getElem?_eq_getElem hj))
    simp [this]
  · rw [List.getElem?_eq_none (by omega), List.getElem?_eq_none (by simp; omega)]
    rfl
section
variable {K : PySem.W.Frag} {a D : Addr} {xs : List V} {i : Nat} {vs : List Nat} {te : TE} {σ : L2.St} {H1 : Hp} {Qd : Hp → Prop} {F : Nat → V → Prop}
theorem comp_list (I : Nat → Hp → Prop) (F : Nat → V → Prop) (h0 : I 0 H1) (hI : ∀ j H o, I j H → I j (upd H D o)) (hS : ∀ j H, I j H → SqL K H a xs) (sz : xs.length ≤ 1000)
    (hw : ∀ x, wipe ((wipe σ vs).set i (some x)) vs = wipe σ vs)
    (hs : ∀ j x H, xs[j]? = some x → I j H → ∀ R : VK, (∀ y H4, F j y → I (j + 1) H4 → H4 D = H D → R y H4) → te ((wipe σ vs).set i (some x)) H R)
    (hd : ∀ H ys, I xs.length H → H D = some (.lst ys) → Gives F xs.length ys → Qd H) :
    ∃ W : Nat → Nat → Hp → Prop, (∃ m, W 0 m (upd H1 D (.lst []))) ∧ ∀ i0 m H, W i0 m H →
      ((Itl K a).stop i0 H ∧ Qd H) ∨ ((Itl K a).go i0 H ∧ ∃ Nx : Hp → Prop, (∀ H', Nx H' → ∃ m', m' < m ∧ W (i0 + 1) m' H') ∧ ∀ x H', (Itl K a).yld i0 H x H' → gName i x (wipe σ vs) H' fun σ2 H2 => wipe σ2 vs = wipe σ vs ∧ tYes σ2 H2 fun b H3 =>
        if b = true then te σ2 H3 fun y H4 => ∃ acc, H4 D = some (.lst acc) ∧ acc.length < sizeLine ∧ Nx (upd H4 D (.lst (acc ++ [y]))) else Nx H3) := by
  refine lc_list (fun j H => I j H ∧ ∃ ys, H D = some (.lst ys) ∧ Gives F j ys) ⟨hI 0 _ _ h0, [], upd_same, rfl, fun j y h => by cases h⟩ (fun j H _ h => hS j H h.1) ?_ ?_
  · rintro j x H hx ⟨hj, ys, e, g⟩
    refine ⟨hw x, ?_⟩
    dsimp only [tYes]
    rw [if_pos rfl]
    refine hs j x H hx hj _ fun y H4 hy hj4 e4 => ⟨ys, e4.trans e, ?_, hI _ _ _ hj4, _, upd_same, g.snoc hy⟩
    rw [g.1]
    have := (List.getElem?_eq_some_iff.mp hx).1
    exact Nat.lt_of_lt_of_le (by omega : j < 1001) (by decide)
  · rintro H ⟨hj, ys, e, g⟩
    exact hd H ys hj e g
theorem comp_tup (I : Nat → Hp → Prop) (F : Nat → V → Prop) (h0 : I 0 H1) (hI : ∀ j H o, I j H → I j (upd H D o)) (hS : ∀ j H, I j H → SqT K H a xs) (sz : xs.length ≤ 1000)
    (hw : ∀ x, wipe ((wipe σ vs).set i (some x)) vs = wipe σ vs)
    (hs : ∀ j x H, xs[j]? = some x → I j H → ∀ R : VK, (∀ y H4, F j y → I (j + 1) H4 → H4 D = H D → R y H4) → te ((wipe σ vs).set i (some x)) H R)
    (hd : ∀ H ys, I xs.length H → H D = some (.lst ys) → Gives F xs.length ys → Qd H) :
    ∃ W : Nat → Nat → Hp → Prop, (∃ m, W 0 m (upd H1 D (.lst []))) ∧ ∀ i0 m H, W i0 m H →
      ((Itt K a).stop i0 H ∧ Qd H) ∨ ((Itt K a).go i0 H ∧ ∃ Nx : Hp → Prop, (∀ H', Nx H' → ∃ m', m' < m ∧ W (i0 + 1) m' H') ∧ ∀ x H', (Itt K a).yld i0 H x H' → gName i x (wipe σ vs) H' fun σ2 H2 => wipe σ2 vs = wipe σ vs ∧ tYes σ2 H2 fun b H3 =>
        if b = true then te σ2 H3 fun y H4 => ∃ acc, H4 D = some (.lst acc) ∧ acc.length < sizeLine ∧ Nx (upd H4 D (.lst (acc ++ [y]))) else Nx H3) := by
  refine lc_tup (fun j H => I j H ∧ ∃ ys, H D = some (.lst ys) ∧ Gives F j ys) ⟨hI 0 _ _ h0, [], upd_same, rfl, fun j y h => by cases h⟩ (fun j H _ h => hS j H h.1) ?_ ?_
  · rintro j x H hx ⟨hj, ys, e, g⟩
    refine ⟨hw x, ?_⟩
    dsimp only [tYes]
    rw [if_pos rfl]
    refine hs j x H hx hj _ fun y H4 hy hj4 e4 => ⟨ys, e4.trans e, ?_, hI _ _ _ hj4, _, upd_same, g.snoc hy⟩
    rw [g.1]
    have := (List.getElem?_eq_some_iff.mp hx).1
    exact Nat.lt_of_lt_of_le (by omega : j < 1001) (by decide)
  · rintro H ⟨hj, ys, e, g⟩
    exact hd H ys hj e g
theorem comp_range {lo : Int} {n : Nat} (I : Nat → Hp → Prop) (F : Nat → V → Prop) (h0 : I 0 H1) (hI : ∀ j H o, I j H → I j (upd H D o)) (sz : n ≤ 1000)
    (hw : ∀ x, wipe ((wipe σ vs).set i (some x)) vs = wipe σ vs)
    (hs : ∀ j H, j < n → I j H → ∀ R : VK, (∀ y H4, F j y → I (j + 1) H4 → H4 D = H D → R y H4) → te ((wipe σ vs).set i (some (.int (lo + j)))) H R)
    (hd : ∀ H ys, I n H → H D = some (.lst ys) → Gives F n ys → Qd H) :
    ∃ W : Nat → Nat → Hp → Prop, (∃ m, W 0 m (upd H1 D (.lst []))) ∧ ∀ i0 m H, W i0 m H →
      ((Itr lo n).stop i0 H ∧ Qd H) ∨ ((Itr lo n).go i0 H ∧ ∃ Nx : Hp → Prop, (∀ H', Nx H' → ∃ m', m' < m ∧ W (i0 + 1) m' H') ∧ ∀ x H', (Itr lo n).yld i0 H x H' → gName i x (wipe σ vs) H' fun σ2 H2 => wipe σ2 vs = wipe σ vs ∧ tYes σ2 H2 fun b H3 =>
        if b = true then te σ2 H3 fun y H4 => ∃ acc, H4 D = some (.lst acc) ∧ acc.length < sizeLine ∧ Nx (upd H4 D (.lst (acc ++ [y]))) else Nx H3) := by
  refine lc_range (fun j H => I j H ∧ ∃ ys, H D = some (.lst ys) ∧ Gives F j ys) ⟨hI 0 _ _ h0, [], upd_same, rfl, fun j y h => by cases h⟩ ?_ ?_
  · rintro j H hx ⟨hj, ys, e, g⟩
    refine ⟨hw _, ?_⟩
    dsimp only [tYes]
    rw [if_pos rfl]
    refine hs j H hx hj _ fun y H4 hy hj4 e4 => ⟨ys, e4.trans e, ?_, hI _ _ _ hj4, _, upd_same, g.snoc hy⟩
    rw [g.1]
    exact Nat.lt_of_lt_of_le (by omega : j < 1001) (by decide)
  · rintro H ⟨hj, ys, e, g⟩
    exact hd H ys hj e g
end
/-- for i, x in enumerate(xs) -/
theorem for_enum {K : PySem.W.Frag} {a : Addr} {xs : List V} {g : TG} {tb : TS} {D : Ends} {σ : L2.St} {H : Hp} (Pv : Nat → L2.St → Hp → Prop) (h0 : Pv 0 σ H)
    (hl : ∀ i σ H, i ≤ xs.length → Pv i σ H → SqL K H a xs)
    (hs : ∀ i x T σ H, xs[i]? = some x → Pv i σ H → H T = none → g (.ref T) σ (upd H T (.tup [.int (i : Nat), x])) fun σ2 H2 => tb { D with nx := Pv (i + 1), ct := Pv (i + 1), bk := D.nx } σ2 H2)
    (hd : ∀ σ H, Pv xs.length σ H → D.nx σ H) :
    ∃ W : Nat → Nat → L2.St → Hp → Prop, (∃ m, W 0 m σ H) ∧ ∀ i m σ H, W i m σ H →
      ((Ite K a).stop i H ∧ D.nx σ H) ∨ ((Ite K a).go i H ∧ ∃ N : L2.St → Hp → Prop, (∀ σ' H', N σ' H' → ∃ m', m' < m ∧ W (i + 1) m' σ' H') ∧
        ∀ x H', (Ite K a).yld i H x H' → g x σ H' fun σ2 H2 => tb { D with nx := N, ct := N, bk := D.nx } σ2 H2) := by
  refine ⟨fun i m σ H => m + i = xs.length ∧ Pv i σ H, ⟨xs.length, rfl, h0⟩, ?_⟩
  rintro i m σ H ⟨e, p⟩
  have q := hl i σ H (by omega) p
  by_cases hlt : i < xs.length
  · refine .inr ⟨⟨xs, xs[i], q, List.getElem?_eq_getElem hlt⟩, Pv (i + 1), fun σ' H' p' => ⟨m - 1, by omega, by omega, p'⟩, ?_⟩
    rintro x H' ⟨T, y, rfl, nT, rfl, fv⟩
    exact hs i y T σ H (fv xs q) p nT
  · have ei : i = xs.length := by omega
    subst ei
    exact .inl ⟨⟨xs, q, Nat.le_refl _⟩, hd σ H p⟩
/-- an int as a test -/
theorem pt_truthI {X : Cx} {a : Expr} {ta : TE} (ha : PE X a ta) (he : ∀ whole, isTrue a X.env whole = (do let v ← whole; standAt a.pos; holding [v] (truthy v))) :
    PT X a (fun σ H Q => ta σ H fun x H' => ∃ i, x = .int i ∧ Q (i != 0) H') := by
  refine ⟨fun pins s σ H Q I h => ?_⟩
  refine isTrue_plain (thn (ha.run pins s σ H _ I h) fun v s1 ⟨x, H1, I1, r1, q1⟩ => ?_) (he _)
  obtain ⟨i, rfl, q⟩ := q1
  exact tru_ok pins s1 σ H1 (.int i) v Q I1 r1 ⟨_, rfl, q⟩
section
variable {K : PySem.W.Frag} {a D : Addr} {xs : List V} {i : Nat} {vs : List Nat} {te : TE} {σ : L2.St} {H1 : Hp} {Qd : Hp → Prop}
theorem comp_listI (I : Nat → List V → Hp → Prop) (h0 : I 0 [] (upd H1 D (.lst []))) (hS : ∀ j ys H, I j ys H → SqL K H a xs) (sz : xs.length ≤ 1000)
    (hw : ∀ x, wipe ((wipe σ vs).set i (some x)) vs = wipe σ vs)
    (hs : ∀ j x ys H, xs[j]? = some x → I j ys H → H D = some (.lst ys) → ∀ R : VK, (∀ y H4, H4 D = some (.lst ys) → I (j + 1) (ys ++ [y]) (upd H4 D (.lst (ys ++ [y]))) → R y H4) → te ((wipe σ vs).set i (some x)) H R)
    (hd : ∀ H ys, I xs.length ys H → H D = some (.lst ys) → ys.length = xs.length → Qd H) :
    ∃ W : Nat → Nat → Hp → Prop, (∃ m, W 0 m (upd H1 D (.lst []))) ∧ ∀ i0 m H, W i0 m H →
      ((Itl K a).stop i0 H ∧ Qd H) ∨ ((Itl K a).go i0 H ∧ ∃ Nx : Hp → Prop, (∀ H', Nx H' → ∃ m', m' < m ∧ W (i0 + 1) m' H') ∧ ∀ x H', (Itl K a).yld i0 H x H' → gName i x (wipe σ vs) H' fun σ2 H2 => wipe σ2 vs = wipe σ vs ∧ tYes σ2 H2 fun b H3 =>
        if b = true then te σ2 H3 fun y H4 => ∃ acc, H4 D = some (.lst acc) ∧ acc.length < sizeLine ∧ Nx (upd H4 D (.lst (acc ++ [y]))) else Nx H3) := by
  refine lc_list (fun j H => ∃ ys, I j ys H ∧ H D = some (.lst ys) ∧ ys.length = j) ⟨[], h0, upd_same, rfl⟩ (fun j H _ ⟨ys, h, _⟩ => hS j ys H h) ?_ ?_
  · rintro j x H hx ⟨ys, hj, e, g⟩
    refine ⟨hw x, ?_⟩
    dsimp only [tYes]
    rw [if_pos rfl]
    refine hs j x ys H hx hj e _ fun y H4 e4 hj4 => ⟨ys, e4, ?_, ys ++ [y], hj4, upd_same, by rw [List.length_append, g]; rfl⟩
    rw [g]
    have := (List.getElem?_eq_some_iff.mp hx).1
    exact Nat.lt_of_lt_of_le (by omega : j < 1001) (by decide)
  · rintro H ⟨ys, hj, e, g⟩
    exact hd H ys hj e g
end
end My
/-! The signs of whole numbers' texts. -/
namespace My
open PySem L2 PySem.Calls PyProof.Rows
open TL NumText
def tx (i : Int) : Str := Str.ofString (toString i)
theorem tl_pos (n : Nat) : tl (tx (n : Int)) = numL n := tl_num n
theorem toString_negSucc (n : Nat) : toString (Int.negSucc n) = "-" ++ toString (((n + 1 : Nat)) : Int) := rfl
theorem tl_neg (n : Nat) : tl (tx (Int.negSucc n)) = 45 :: numL (n + 1) := by
  unfold tx
  rw [tl_ofString, toString_negSucc, String.toList_append, List.map_append, ← tl_ofString (toString (((n + 1 : Nat)) : Int)), tl_num]
  rfl
/-- sizes that are carried -/
def Sz (i : Int) : Prop := i.natAbs < 10 ^ 60
theorem Sz.log {i : Int} (h : Sz i) : i.natAbs.log2 < 1920 := by
  unfold Sz at h
  by_cases z : i.natAbs = 0
  · rw [z]
    decide
  · have h1 := Nat.log2_lt z (k := 200)
    have h2 : i.natAbs < 2 ^ 200 := Nat.lt_trans h (by decide)
    have := h1.mpr h2
    omega
theorem tx_len {i : Int} (h : Sz i) : (tx i).length ≤ 61 := by
  unfold Sz at h
  rw [len_tl]
  cases i with
  | ofNat n =>
    show (tl (tx (n : Int))).length ≤ 61
    rw [tl_pos]
    have := numL_len (n := n) (k := 60) (by decide) h
    omega
  | negSucc n =>
    rw [tl_neg, List.length_cons]
    have := numL_len (n := n + 1) (k := 60) (by decide) h
    omega
theorem tx_free {i : Int} {c : Nat} (h1 : c < 48 ∨ 57 < c) (h2 : c ≠ 45) : c ∉ tl (tx i) := by
  cases i with
  | ofNat n =>
    show c ∉ tl (tx (n : Int))
    rw [tl_pos]
    exact numL_free h1
  | negSucc n =>
    rw [tl_neg]
    intro hm
    rcases List.mem_cons.mp hm with e | e
    · exact h2 e
    · exact numL_free h1 e
theorem tx_ne {i : Int} : tl (tx i) ≠ [] := by
  cases i with
  | ofNat n =>
    show tl (tx (n : Int)) ≠ []
    rw [tl_pos]
    exact numL_ne n
  | negSucc n =>
    rw [tl_neg]
    simp
theorem tx_int {i : Int} (h : Sz i) : intText? (tx i) = some i := by
  have hl := tx_len h
  cases i with
  | ofNat n =>
    have e : tl (tx (Int.ofNat n)) = numL n := tl_pos n
    exact int_num (by rw [len_tl, e] at hl; omega)
  | negSucc n =>
    have := intText_neg (x := tx (Int.negSucc n)) (tl_neg n) (numL_digits _) (numL_ne _) (by omega)
    rw [this, numL_val]
    congr 1
theorem tx_inj {i j : Int} (hi : Sz i) (hj : Sz j) (h : tx i = tx j) : i = j := by
  have := tx_int hi
  rw [h, tx_int hj] at this
  exact (Option.some.inj this).symm
theorem not_mem_of {c : Nat} {x : Str} (h : c ∉ tl x) {y : Str} (hy : c ∈ tl y) : x ≠ y := fun e => h (e ▸ hy)
/-- what begins with a sign -/
theorem starts_one (x : Str) (c : Nat) : Txt.startswith x ⟨#[c]⟩ = decide ((tl x)[0]? = some c) := by
  have h := StrLaws.subAt_one x c 0
  unfold Txt.startswith
  by_cases e : (tl x)[0]? = some c
  · obtain ⟨h1, h2⟩ := h.mpr e
    rw [h2, decide_eq_true h1, decide_eq_true e]
    rfl
  · rw [decide_eq_false e]
    by_cases g : 0 + (⟨#[c]⟩ : Str).length ≤ x.length
    · by_cases g2 : Builtin.Str.subAt x ⟨#[c]⟩ 0 = true
      · exact absurd (h.mp ⟨g, g2⟩) e
      · rw [Bool.eq_false_iff.mpr g2, Bool.and_false]
    · rw [decide_eq_false g]
      rfl
theorem numL_head (n : Nat) : (n = 0 ∧ numL n = [48]) ∨ ∃ c r, numL n = c :: r ∧ 49 ≤ c ∧ c ≤ 57 := by
  induction n using Nat.strongRecOn with
  | _ n ih =>
    by_cases h : n < 10
    · rw [numL_lt h]
      by_cases z : n = 0
      · subst z
        exact .inl ⟨rfl, rfl⟩
      · exact .inr ⟨48 + n, [], rfl, by omega, by omega⟩
    · rw [numL_step (by omega)]
      rcases ih (n / 10) (by omega) with ⟨z, _⟩ | ⟨c, r, e, h1, h2⟩
      · omega
      · exact .inr ⟨c, r ++ [48 + n % 10], by rw [e]; rfl, h1, h2⟩
theorem starts_minus (i : Int) : Txt.startswith (tx i) "-" = decide (i < 0) := by
  rw [show (("-" : String) : Str) = ⟨#[45]⟩ from rfl, starts_one]
  cases i with
  | ofNat n =>
    have e : tl (tx (Int.ofNat n)) = numL n := tl_pos n
    rw [e]
    have a : ¬ (numL n)[0]? = some 45 := by
      rcases numL_head n with ⟨_, h⟩ | ⟨c, r, h, h1, h2⟩
      · rw [h]
        simp
      · rw [h]
        simp
        omega
    rw [decide_eq_false a, decide_eq_false (show ¬ (Int.ofNat n < 0) from Int.not_lt.mpr (Int.natCast_nonneg n))]
  | negSucc n =>
    rw [tl_neg, decide_eq_true (by rfl), decide_eq_true (by omega)]
theorem cut_minus (n : Nat) : cutS (tx (Int.negSucc n)) (some 1) none = tx ((n + 1 : Nat) : Int) := by
  apply ext_tl
  rw [tl_pos]
  unfold cutS
  show ((tl (tx (Int.negSucc n))).drop _).take _ = _
  rw [len_tl, tl_neg]
  have h1 : HT.sIx (45 :: numL (n + 1)).length 0 (some 1) = 1 := by
    have : 1 ≤ (45 :: numL (n + 1)).length := by simp
    simp only [HT.sIx]
    first | omega | (simp; omega) | simp
  have h2 : HT.sIx (45 :: numL (n + 1)).length (45 :: numL (n + 1)).length none = (45 :: numL (n + 1)).length := by
    simp [HT.sIx]
  rw [h1, h2]
  simp
theorem num_ascii (n : Nat) : Txt.isascii (tx (n : Int)) = true := by
  unfold Txt.isascii
  rw [← Array.all_toList, List.all_eq_true]
  intro c hc
  have h := numL_digits n c (by rw [← tl_pos]; exact hc)
  exact decide_eq_true (by omega)
theorem isDigit_dec : ∀ c : Nat, c < 58 → 48 ≤ c → Unicode.isDigit c = true := by decide +kernel
theorem num_isdigit (n : Nat) : Txt.isdigit (tx (n : Int)) = true := by
  unfold Txt.isdigit
  rw [Bool.and_eq_true]
  constructor
  · apply decide_eq_true
    rw [len_tl, tl_pos]
    exact List.length_pos_iff.mpr (numL_ne n)
  · rw [← Array.all_toList, List.all_eq_true]
    intro c hc
    have h := numL_digits n c (by rw [← tl_pos]; exact hc)
    exact isDigit_dec c (by omega) (by omega)
theorem starts_zero (n : Nat) : Txt.startswith (tx (n : Int)) "0" = decide (n = 0) := by
  rw [show (("0" : String) : Str) = ⟨#[48]⟩ from rfl, starts_one, tl_pos]
  rcases numL_head n with ⟨e, h⟩ | ⟨c, r, h, h1, h2⟩
  · rw [h, e]
    rfl
  · rw [h]
    have e : n ≠ 0 := fun z => by
      rw [z, numL_lt (by decide)] at h
      cases h
      omega
    rw [decide_eq_false e, decide_eq_false]
    simp
    omega
theorem tx_zero : tx 0 = "0" := by decide +kernel
theorem num_len2 {n : Nat} (h : n < 100) : (tx (n : Int)).length ≤ 2 := by
  rw [len_tl, tl_pos]
  exact numL_len (by decide) (by omega)
end My
namespace My
open PySem L2 PySem.Calls PyProof.Rows
open TL NumText
theorem tx_digit (i : Int) : ∃ c ∈ tl (tx i), 48 ≤ c := by
  have h : ∀ n : Nat, ∃ c ∈ numL n, 48 ≤ c := fun n => by
    obtain ⟨c, r, e⟩ := List.exists_cons_of_ne_nil (numL_ne n)
    have : c ∈ numL n := by rw [e]; exact .head _
    exact ⟨c, this, (numL_digits n c this).1⟩
  cases i with
  | ofNat n =>
    rw [show tl (tx (Int.ofNat n)) = numL n from tl_pos n]
    exact h n
  | negSucc n =>
    rw [tl_neg]
    obtain ⟨c, m, l⟩ := h (n + 1)
    exact ⟨c, .tail _ m, l⟩
theorem mem_joinL {S : List Nat} {c : Nat} : ∀ {ps : List (List Nat)} {p : List Nat}, p ∈ ps → c ∈ p → c ∈ joinL S ps
  | [], _, h, _ => nomatch h
  | [q], p, h, m => by
    rw [List.mem_singleton.mp h] at m
    exact m
  | q :: r :: t, p, h, m => by
    show c ∈ q ++ (S ++ joinL S (r :: t))
    rcases List.mem_cons.mp h with e | e
    · rw [← e]
      exact List.mem_append_left _ m
    · exact List.mem_append_right _ (List.mem_append_right _ (mem_joinL e m))
theorem join_not_dash {ns : List Int} (h : ns ≠ []) : Txt.join (" " : Str) (ns.map tx) ≠ ("-" : Str) := by
  intro e
  obtain ⟨n, r, rfl⟩ := List.exists_cons_of_ne_nil h
  obtain ⟨c, m, l⟩ := tx_digit n
  have m2 : c ∈ tl (Txt.join (" " : Str) ((n :: r).map tx)) := by
    rw [join_eq, tl_join]
    exact mem_joinL (List.mem_map_of_mem (List.mem_map_of_mem (.head _))) m
  rw [e] at m2
  have : c = 45 := List.mem_singleton.mp m2
  omega
theorem split_txs {ns : List Int} (h : ns ≠ []) : Txt.split (Txt.join (" " : Str) (ns.map tx)) (" " : Str) = ns.map tx := by
  refine split_join (s := 32) (S := []) (by decide +kernel) (by decide +kernel) (by simpa using h) ?_
  intro p hp
  obtain ⟨n, _, rfl⟩ := List.mem_map.mp hp
  exact tx_free (.inl (by decide)) (by decide)
end My
namespace My
open PySem L2 PySem.Calls PyProof.Rows
open TL NumText
theorem joinL_mem {S : List Nat} {c : Nat} : ∀ {ps : List (List Nat)}, c ∈ joinL S ps → c ∈ S ∨ ∃ p ∈ ps, c ∈ p
  | [], h => nomatch h
  | [q], h => .inr ⟨q, .head _, h⟩
  | q :: r :: t, h => by
    have h' : c ∈ q ++ (S ++ joinL S (r :: t)) := h
    rcases List.mem_append.mp h' with m | m
    · exact .inr ⟨q, .head _, m⟩
    · rcases List.mem_append.mp m with m | m
      · exact .inl m
      · rcases joinL_mem m with e | ⟨p, hp, m⟩
        · exact .inl e
        · exact .inr ⟨p, .tail _ hp, m⟩
theorem join_free {y : Str} {ps : List Str} {c : Nat} (h1 : c ∉ tl y) (h2 : ∀ p ∈ ps, c ∉ tl p) : c ∉ tl (Txt.join y ps) := by
  rw [join_eq, tl_join]
  intro h
  rcases joinL_mem h with m | ⟨p, hp, m⟩
  · exact h1 m
  · obtain ⟨q, hq, rfl⟩ := List.mem_map.mp hp
    exact h2 q hq m
theorem cut_front (x y : Str) : cutS (x ++ y) (some (x.length : Int)) none = y := by
  apply ext_tl
  unfold cutS
  show ((tl (x ++ y)).drop _).take _ = _
  have e : (tl (x ++ y)).length = (x ++ y).length := (len_tl _).symm
  have e2 : (x ++ y).length = x.length + y.length := by rw [len_tl, tl_append, List.length_append, ← len_tl, ← len_tl]
  have h1 : HT.sIx (x ++ y).length 0 (some (x.length : Int)) = x.length := by
    rw [e2]
    simp only [HT.sIx]
    first | omega | (simp; omega) | simp
  have h2 : HT.sIx (x ++ y).length (x ++ y).length none = (x ++ y).length := by simp [HT.sIx]
  rw [h1, h2, tl_append, len_tl x, List.drop_left, List.take_of_length_le]
  rw [e2, len_tl x, len_tl y]
  omega
end My
/-! Comprehensions that only make new things: the list of g of each item. -/
namespace My
open PySem L2 PySem.Calls PyProof.Rows
theorem same_upd3 {H : Hp} {p : Addr} {o : HO} (h : H p = none) : Same H (upd H p o) := by
  intro b x e
  rw [upd_ne (ne_of_none e h)]
  exact e
section
variable {K : PySem.W.Frag} {a D : Addr} {xs : List V} {i : Nat} {vs : List Nat} {te : TE} {σ : L2.St} {H1 : Hp} {Qd : Hp → Prop}
theorem map_listS (gs : List V) (hl : gs.length = xs.length) (hS : ∀ H, Same H1 H → SqL K H a xs) (nD : H1 D = none) (sz : xs.length ≤ 1000)
    (hw : ∀ x, wipe ((wipe σ vs).set i (some x)) vs = wipe σ vs)
    (hs : ∀ (j : Nat) (x y : V) (H : Hp), xs[j]? = some x → gs[j]? = some y → Same H1 H → ∀ R : VK, (∀ H4, Same H H4 → R y H4) → te ((wipe σ vs).set i (some x)) H R)
    (hd : ∀ H, Same H1 H → H D = some (.lst gs) → Qd H) :
    ∃ W : Nat → Nat → Hp → Prop, (∃ m, W 0 m (upd H1 D (.lst []))) ∧ ∀ i0 m H, W i0 m H →
      ((Itl K a).stop i0 H ∧ Qd H) ∨ ((Itl K a).go i0 H ∧ ∃ Nx : Hp → Prop, (∀ H', Nx H' → ∃ m', m' < m ∧ W (i0 + 1) m' H') ∧ ∀ x H', (Itl K a).yld i0 H x H' → gName i x (wipe σ vs) H' fun σ2 H2 => wipe σ2 vs = wipe σ vs ∧ tYes σ2 H2 fun b H3 =>
        if b = true then te σ2 H3 fun y H4 => ∃ acc, H4 D = some (.lst acc) ∧ acc.length < sizeLine ∧ Nx (upd H4 D (.lst (acc ++ [y]))) else Nx H3) := by
  refine lc_list (fun j H => Same H1 H ∧ H D = some (.lst (gs.take j))) ⟨same_upd3 nD, upd_same⟩ (fun j H _ h => hS H h.1) ?_ ?_
  · rintro j x H hx ⟨hj, e⟩
    refine ⟨hw x, ?_⟩
    dsimp only [tYes]
    rw [if_pos rfl]
    have hlt := (List.getElem?_eq_some_iff.mp hx).1
    have hy : gs[j]? = some gs[j] := List.getElem?_eq_getElem (by omega)
    refine hs j x _ H hx hy hj _ fun H4 s4 => ⟨_, s4 _ _ e, ?_, ?_, ?_⟩
    · rw [List.length_take]
      exact Nat.lt_of_lt_of_le (by omega : _ < 1001) (by decide)
    · intro b u e2
      rw [upd_ne (ne_of_none e2 nD)]
      exact s4 _ _ (hj _ _ e2)
    · rw [upd_same, List.take_succ, hy]
      rfl
  · rintro H ⟨hj, e⟩
    rw [← hl, List.take_length] at e
    exact hd H hj e
theorem map_listG (gs : List V) (hl : gs.length = xs.length) (hS : H1 a = some (.lst xs)) (nD : H1 D = none) (sz : xs.length ≤ 1000)
    (hw : ∀ x, wipe ((wipe σ vs).set i (some x)) vs = wipe σ vs)
    (hs : ∀ (j : Nat) (x y : V) (H : Hp), xs[j]? = some x → gs[j]? = some y → Same H1 H → ∀ R : VK, (∀ H4, Same H H4 → R y H4) → te ((wipe σ vs).set i (some x)) H R)
    (hd : ∀ H, Same H1 H → H D = some (.lst gs) → Qd H) :
    ∃ W : Nat → Nat → Hp → Prop, (∃ m, W 0 m (upd H1 D (.lst []))) ∧ ∀ i0 m H, W i0 m H →
      ((Itl K a).stop i0 H ∧ Qd H) ∨ ((Itl K a).go i0 H ∧ ∃ Nx : Hp → Prop, (∀ H', Nx H' → ∃ m', m' < m ∧ W (i0 + 1) m' H') ∧ ∀ x H', (Itl K a).yld i0 H x H' → gName i x (wipe σ vs) H' fun σ2 H2 => wipe σ2 vs = wipe σ vs ∧ tYes σ2 H2 fun b H3 =>
        if b = true then te σ2 H3 fun y H4 => ∃ acc, H4 D = some (.lst acc) ∧ acc.length < sizeLine ∧ Nx (upd H4 D (.lst (acc ++ [y]))) else Nx H3) :=
  map_listS gs hl (fun H s => SqL.of (s _ _ hS)) nD sz hw hs hd
theorem map_list (g : V → V) (hS : H1 a = some (.lst xs)) (nD : H1 D = none) (sz : xs.length ≤ 1000)
    (hw : ∀ x, wipe ((wipe σ vs).set i (some x)) vs = wipe σ vs)
    (hs : ∀ (j : Nat) (x : V) (H : Hp), xs[j]? = some x → Same H1 H → ∀ R : VK, (∀ H4, Same H H4 → R (g x) H4) → te ((wipe σ vs).set i (some x)) H R)
    (hd : ∀ H, Same H1 H → H D = some (.lst (xs.map g)) → Qd H) :
    ∃ W : Nat → Nat → Hp → Prop, (∃ m, W 0 m (upd H1 D (.lst []))) ∧ ∀ i0 m H, W i0 m H →
      ((Itl K a).stop i0 H ∧ Qd H) ∨ ((Itl K a).go i0 H ∧ ∃ Nx : Hp → Prop, (∀ H', Nx H' → ∃ m', m' < m ∧ W (i0 + 1) m' H') ∧ ∀ x H', (Itl K a).yld i0 H x H' → gName i x (wipe σ vs) H' fun σ2 H2 => wipe σ2 vs = wipe σ vs ∧ tYes σ2 H2 fun b H3 =>
        if b = true then te σ2 H3 fun y H4 => ∃ acc, H4 D = some (.lst acc) ∧ acc.length < sizeLine ∧ Nx (upd H4 D (.lst (acc ++ [y]))) else Nx H3) := by
  refine map_listG (xs.map g) (List.length_map ..) hS nD sz hw (fun j x y H hx hy sH R hR => ?_) hd
  rw [List.getElem?_map, hx] at hy
  cases hy
  exact hs j x H hx sH R hR
theorem map_tupS (gs : List V) (hl : gs.length = xs.length) (hS : ∀ H, Same H1 H → SqT K H a xs) (nD : H1 D = none) (sz : xs.length ≤ 1000)
    (hw : ∀ x, wipe ((wipe σ vs).set i (some x)) vs = wipe σ vs)
    (hs : ∀ (j : Nat) (x y : V) (H : Hp), xs[j]? = some x → gs[j]? = some y → Same H1 H → ∀ R : VK, (∀ H4, Same H H4 → R y H4) → te ((wipe σ vs).set i (some x)) H R)
    (hd : ∀ H, Same H1 H → H D = some (.lst gs) → Qd H) :
    ∃ W : Nat → Nat → Hp → Prop, (∃ m, W 0 m (upd H1 D (.lst []))) ∧ ∀ i0 m H, W i0 m H →
      ((Itt K a).stop i0 H ∧ Qd H) ∨ ((Itt K a).go i0 H ∧ ∃ Nx : Hp → Prop, (∀ H', Nx H' → ∃ m', m' < m ∧ W (i0 + 1) m' H') ∧ ∀ x H', (Itt K a).yld i0 H x H' → gName i x (wipe σ vs) H' fun σ2 H2 => wipe σ2 vs = wipe σ vs ∧ tYes σ2 H2 fun b H3 =>
        if b = true then te σ2 H3 fun y H4 => ∃ acc, H4 D = some (.lst acc) ∧ acc.length < sizeLine ∧ Nx (upd H4 D (.lst (acc ++ [y]))) else Nx H3) := by
  refine lc_tup (fun j H => Same H1 H ∧ H D = some (.lst (gs.take j))) ⟨same_upd3 nD, upd_same⟩ (fun j H _ h => hS H h.1) ?_ ?_
  · rintro j x H hx ⟨hj, e⟩
    refine ⟨hw x, ?_⟩
    dsimp only [tYes]
    rw [if_pos rfl]
    have hlt := (List.getElem?_eq_some_iff.mp hx).1
    have hy : gs[j]? = some gs[j] := List.getElem?_eq_getElem (by omega)
    refine hs j x _ H hx hy hj _ fun H4 s4 => ⟨_, s4 _ _ e, ?_, ?_, ?_⟩
    · rw [List.length_take]
      exact Nat.lt_of_lt_of_le (by omega : _ < 1001) (by decide)
    · intro b u e2
      rw [upd_ne (ne_of_none e2 nD)]
      exact s4 _ _ (hj _ _ e2)
    · rw [upd_same, List.take_succ, hy]
      rfl
  · rintro H ⟨hj, e⟩
    rw [← hl, List.take_length] at e
    exact hd H hj e
theorem map_tupG (gs : List V) (hl : gs.length = xs.length) (hS : H1 a = some (.tup xs)) (nD : H1 D = none) (sz : xs.length ≤ 1000)
    (hw : ∀ x, wipe ((wipe σ vs).set i (some x)) vs = wipe σ vs)
    (hs : ∀ (j : Nat) (x y : V) (H : Hp), xs[j]? = some x → gs[j]? = some y → Same H1 H → ∀ R : VK, (∀ H4, Same H H4 → R y H4) → te ((wipe σ vs).set i (some x)) H R)
    (hd : ∀ H, Same H1 H → H D = some (.lst gs) → Qd H) :
    ∃ W : Nat → Nat → Hp → Prop, (∃ m, W 0 m (upd H1 D (.lst []))) ∧ ∀ i0 m H, W i0 m H →
      ((Itt K a).stop i0 H ∧ Qd H) ∨ ((Itt K a).go i0 H ∧ ∃ Nx : Hp → Prop, (∀ H', Nx H' → ∃ m', m' < m ∧ W (i0 + 1) m' H') ∧ ∀ x H', (Itt K a).yld i0 H x H' → gName i x (wipe σ vs) H' fun σ2 H2 => wipe σ2 vs = wipe σ vs ∧ tYes σ2 H2 fun b H3 =>
        if b = true then te σ2 H3 fun y H4 => ∃ acc, H4 D = some (.lst acc) ∧ acc.length < sizeLine ∧ Nx (upd H4 D (.lst (acc ++ [y]))) else Nx H3) :=
  map_tupS gs hl (fun H s => SqT.of (s _ _ hS)) nD sz hw hs hd
theorem map_tup (g : V → V) (hS : H1 a = some (.tup xs)) (nD : H1 D = none) (sz : xs.length ≤ 1000)
    (hw : ∀ x, wipe ((wipe σ vs).set i (some x)) vs = wipe σ vs)
    (hs : ∀ (j : Nat) (x : V) (H : Hp), xs[j]? = some x → Same H1 H → ∀ R : VK, (∀ H4, Same H H4 → R (g x) H4) → te ((wipe σ vs).set i (some x)) H R)
    (hd : ∀ H, Same H1 H → H D = some (.lst (xs.map g)) → Qd H) :
    ∃ W : Nat → Nat → Hp → Prop, (∃ m, W 0 m (upd H1 D (.lst []))) ∧ ∀ i0 m H, W i0 m H →
      ((Itt K a).stop i0 H ∧ Qd H) ∨ ((Itt K a).go i0 H ∧ ∃ Nx : Hp → Prop, (∀ H', Nx H' → ∃ m', m' < m ∧ W (i0 + 1) m' H') ∧ ∀ x H', (Itt K a).yld i0 H x H' → gName i x (wipe σ vs) H' fun σ2 H2 => wipe σ2 vs = wipe σ vs ∧ tYes σ2 H2 fun b H3 =>
        if b = true then te σ2 H3 fun y H4 => ∃ acc, H4 D = some (.lst acc) ∧ acc.length < sizeLine ∧ Nx (upd H4 D (.lst (acc ++ [y]))) else Nx H3) := by
  refine map_tupG (xs.map g) (List.length_map ..) hS nD sz hw (fun j x y H hx hy sH R hR => ?_) hd
  rw [List.getElem?_map, hx] at hy
  cases hy
  exact hs j x H hx sH R hR
theorem map_range {lo : Int} {n : Nat} (gs : List V) (hl : gs.length = n) (nD : H1 D = none) (sz : n ≤ 1000)
    (hw : ∀ x, wipe ((wipe σ vs).set i (some x)) vs = wipe σ vs)
    (hs : ∀ (j : Nat) (y : V) (H : Hp), j < n → gs[j]? = some y → Same H1 H → ∀ R : VK, (∀ H4, Same H H4 → R y H4) → te ((wipe σ vs).set i (some (.int (lo + j)))) H R)
    (hd : ∀ H, Same H1 H → H D = some (.lst gs) → Qd H) :
    ∃ W : Nat → Nat → Hp → Prop, (∃ m, W 0 m (upd H1 D (.lst []))) ∧ ∀ i0 m H, W i0 m H →
      ((Itr lo n).stop i0 H ∧ Qd H) ∨ ((Itr lo n).go i0 H ∧ ∃ Nx : Hp → Prop, (∀ H', Nx H' → ∃ m', m' < m ∧ W (i0 + 1) m' H') ∧ ∀ x H', (Itr lo n).yld i0 H x H' → gName i x (wipe σ vs) H' fun σ2 H2 => wipe σ2 vs = wipe σ vs ∧ tYes σ2 H2 fun b H3 =>
        if b = true then te σ2 H3 fun y H4 => ∃ acc, H4 D = some (.lst acc) ∧ acc.length < sizeLine ∧ Nx (upd H4 D (.lst (acc ++ [y]))) else Nx H3) := by
  refine lc_range (fun j H => Same H1 H ∧ H D = some (.lst (gs.take j))) ⟨same_upd3 nD, upd_same⟩ ?_ ?_
  · rintro j H hx ⟨hj, e⟩
    refine ⟨hw _, ?_⟩
    dsimp only [tYes]
    rw [if_pos rfl]
    have hy : gs[j]? = some gs[j] := List.getElem?_eq_getElem (by omega)
    refine hs j _ H hx hy hj _ fun H4 s4 => ⟨_, s4 _ _ e, ?_, ?_, ?_⟩
    · rw [List.length_take]
      exact Nat.lt_of_lt_of_le (by omega : _ < 1001) (by decide)
    · intro b u e2
      rw [upd_ne (ne_of_none e2 nD)]
      exact s4 _ _ (hj _ _ e2)
    · rw [upd_same, List.take_succ, hy]
      rfl
  · rintro H ⟨hj, e⟩
    rw [← hl, List.take_length] at e
    exact hd H hj e
variable {F : Nat → V → Prop}
theorem comp_rangeD {lo : Int} {n : Nat} (I : Nat → Hp → Prop) (F : Nat → V → Prop) (h0 : I 0 H1) (hI : ∀ j H o, I j H → I j (upd H D o)) (sz : n ≤ 1000)
    (hw : ∀ x, wipe ((wipe σ vs).set i (some x)) vs = wipe σ vs)
    (hs : ∀ j H ys, j < n → I j H → H D = some (.lst ys) → ∀ R : VK, (∀ y H4, F j y → I (j + 1) H4 → H4 D = H D → R y H4) → te ((wipe σ vs).set i (some (.int (lo + j)))) H R)
    (hd : ∀ H ys, I n H → H D = some (.lst ys) → Gives F n ys → Qd H) :
    ∃ W : Nat → Nat → Hp → Prop, (∃ m, W 0 m (upd H1 D (.lst []))) ∧ ∀ i0 m H, W i0 m H →
      ((Itr lo n).stop i0 H ∧ Qd H) ∨ ((Itr lo n).go i0 H ∧ ∃ Nx : Hp → Prop, (∀ H', Nx H' → ∃ m', m' < m ∧ W (i0 + 1) m' H') ∧ ∀ x H', (Itr lo n).yld i0 H x H' → gName i x (wipe σ vs) H' fun σ2 H2 => wipe σ2 vs = wipe σ vs ∧ tYes σ2 H2 fun b H3 =>
        if b = true then te σ2 H3 fun y H4 => ∃ acc, H4 D = some (.lst acc) ∧ acc.length < sizeLine ∧ Nx (upd H4 D (.lst (acc ++ [y]))) else Nx H3) := by
  refine lc_range (fun j H => I j H ∧ ∃ ys, H D = some (.lst ys) ∧ Gives F j ys) ⟨hI 0 _ _ h0, [], upd_same, rfl, fun j y h => by cases h⟩ ?_ ?_
  · rintro j H hx ⟨hj, ys, e, g⟩
    refine ⟨hw _, ?_⟩
    dsimp only [tYes]
    rw [if_pos rfl]
    refine hs j H ys hx hj e _ fun y H4 hy hj4 e4 => ⟨ys, e4.trans e, ?_, hI _ _ _ hj4, _, upd_same, g.snoc hy⟩
    rw [g.1]
    exact Nat.lt_of_lt_of_le (by omega : j < 1001) (by decide)
  · rintro H ⟨hj, ys, e, g⟩
    exact hd H ys hj e g
theorem comp_listD (I : Nat → Hp → Prop) (F : Nat → V → Prop) (h0 : I 0 H1) (hI : ∀ j H o, I j H → I j (upd H D o)) (hS : ∀ j H, I j H → SqL K H a xs) (sz : xs.length ≤ 1000)
    (hw : ∀ x, wipe ((wipe σ vs).set i (some x)) vs = wipe σ vs)
    (hs : ∀ (j : Nat) (x : V) (H : Hp) (ys : List V), xs[j]? = some x → I j H → H D = some (.lst ys) → ∀ R : VK, (∀ y H4, F j y → I (j + 1) H4 → H4 D = H D → R y H4) → te ((wipe σ vs).set i (some x)) H R)
    (hd : ∀ H ys, I xs.length H → H D = some (.lst ys) → Gives F xs.length ys → Qd H) :
    ∃ W : Nat → Nat → Hp → Prop, (∃ m, W 0 m (upd H1 D (.lst []))) ∧ ∀ i0 m H, W i0 m H →
      ((Itl K a).stop i0 H ∧ Qd H) ∨ ((Itl K a).go i0 H ∧ ∃ Nx : Hp → Prop, (∀ H', Nx H' → ∃ m', m' < m ∧ W (i0 + 1) m' H') ∧ ∀ x H', (Itl K a).yld i0 H x H' → gName i x (wipe σ vs) H' fun σ2 H2 => wipe σ2 vs = wipe σ vs ∧ tYes σ2 H2 fun b H3 =>
        if b = true then te σ2 H3 fun y H4 => ∃ acc, H4 D = some (.lst acc) ∧ acc.length < sizeLine ∧ Nx (upd H4 D (.lst (acc ++ [y]))) else Nx H3) := by
  refine lc_list (fun j H => I j H ∧ ∃ ys, H D = some (.lst ys) ∧ Gives F j ys) ⟨hI 0 _ _ h0, [], upd_same, rfl, fun j y h => by cases h⟩ (fun j H _ h => hS j H h.1) ?_ ?_
  · rintro j x H hx ⟨hj, ys, e, g⟩
    refine ⟨hw x, ?_⟩
    dsimp only [tYes]
    rw [if_pos rfl]
    refine hs j x H ys hx hj e _ fun y H4 hy hj4 e4 => ⟨ys, e4.trans e, ?_, hI _ _ _ hj4, _, upd_same, g.snoc hy⟩
    rw [g.1]
    have := (List.getElem?_eq_some_iff.mp hx).1
    exact Nat.lt_of_lt_of_le (by omega : j < 1001) (by decide)
  · rintro H ⟨hj, ys, e, g⟩
    exact hd H ys hj e g
end
end My
/-! for i, x in enumerate(xs, start=k) -/
namespace My
open PySem L2 PySem.Calls PyProof.Rows
section
variable {M : Model} {A : Around} {E : Value → Shared → Prop} {s : Shared} {env : Env}
theorem callWith_type_kwB {pos : Pos} {T : String} {first : List Value} {args : List (Bool × Sem Value)} {keywords : List (Option Str × Sem Value)} {Q : Value → Shared → Prop}
    (hplain : args.any (·.1) = false) (hkw : keywords.any (·.1.isNone) = false)
    (h : wpAny M A (evalArgs (.type T) true args keywords) (fun a s₁ => wpAny M A (call (.type T) (first ++ a.pos) a.kw) Q E s₁) E s) :
    wpAny M A (callWith pos (.type T) first args keywords) Q E s := by
  unfold callWith
  refine wpAny_bind (wpAny_holding (wpAny_mono h (fun a s₁ h₁ => wpAny_bind (wpAny_standAt ?_)) fun _ _ x => x))
  simp only [hplain, hkw, Bool.or_false]
  refine wpAny_bind (wpAny_pure ?_)
  exact wpAny_bind (wpAny_mono h₁ (fun r s₂ hr => wpAny_bind (wpAny_holding (wpAny_point (wpAny_pure hr)))) fun _ _ x => x)
theorem callWith_type_kw {pos : Pos} {T : String} {e : Expr} {rest : List Expr} {kws : List Keyword} {Q : Value → Shared → Prop}
    (h : wpAny M A (spliced (backTo pos (starEach (e :: rest) env))) (fun vs s₁ => wpAny M A (evalAll ((backToKw pos (keywordEach kws env)).map (·.2)))
      (fun kvs s₂ => wpAny M A (call (.type T) vs (((backToKw pos (keywordEach kws env)).filterMap (·.1)).zip kvs)) Q E s₂) E s₁) E s)
    (he : backTo pos (starEach (e :: rest) env) = (false, eval e env) :: backTo pos (starEach rest env) := by rfl)
    (hplain : (backTo pos (starEach (e :: rest) env)).any (·.1) = false := by rfl)
    (hall : (backToKw pos (keywordEach kws env)).all (·.1.isSome) = true := by rfl)
    (hkw : (backToKw pos (keywordEach kws env)).any (·.1.isNone) = false := by rfl) :
    wpAny M A (callWith pos (.type T) [] (backTo pos (starEach (e :: rest) env)) (backToKw pos (keywordEach kws env))) Q E s := by
  refine callWith_type_kwB hplain hkw ?_
  rw [he] at h ⊢
  exact evalArgs_kwB hall h
end
/-- what a walk counted from k gives: a fresh pair of the count and the item of the list at a -/
def Ctd (K : PySem.W.Frag) (a : Addr) (k : Int) : It where
  go j G := ∃ (ys : List V) (y : V), SqL K G a ys ∧ ys[j]? = some y
  yld j G z G' := ∃ T y, z = .ref T ∧ G T = none ∧ G' = upd G T (.tup [.int (k + (j : Nat)), y]) ∧ ∀ ys, SqL K G a ys → ys[j]? = some y
  stop j G := ∃ ys : List V, SqL K G a ys ∧ ys.length ≤ j
/-- the counter's state before turn j -/
def CtdSt (a cnt li : Addr) (k : Int) (j : Nat) (g : Heap) : Prop := (∃ z, IsEnum g cnt li (k + ((j : Nat) : Int)) z) ∧ g.IsListIter li a j ∧ cnt ≠ li
theorem CtdSt.apart {a cnt li : Addr} {k : Int} {j : Nat} {g : Heap} {ws : Array Value} (c : CtdSt a cnt li k j g) (l : g.IsList a ws) : a ≠ li ∧ a ≠ cnt := by
  obtain ⟨⟨z, c1⟩, ⟨o1, q1, k1, _⟩, _⟩ := c
  obtain ⟨o2, q2, k2, _⟩ := l
  refine ⟨fun e => ?_, fun e => ?_⟩
  · subst e
    have e2 : o1 = o2 := Option.some.inj (q1.symm.trans q2)
    rw [e2, k2] at k1
    exact absurd k1 (by decide)
  · subst e
    have e2 := Option.some.inj (c1.symm.trans q2)
    rw [← e2] at k2
    exact absurd (show Value.type "enumerate" = Value.type "list" from k2) (by decide)
section
variable {P : Program} {w : World} {A : Around} {E : Value → Shared → Prop} {s : Shared}
/-- the counter is at its end -/
theorem ctd_end {a cnt li : Addr} {j : Nat} {c : Int} {z : Value} {ws : Array Value} {Q : Option Value → Shared → Prop} (cold : A.handled = none) (c1 : IsEnum s.heap cnt li c z) (c2 : s.heap.IsListIter li a j) (l : s.heap.IsList a ws)
    (o : ws[j]? = none) (q : ∀ g, Heap.ExtBut li s.heap g → Q none { s with heap := g }) : wpAny (model P w) A (pyNext (.ref cnt)) Q E s := by
  have ty : s.TypeIs (.ref cnt) "enumerate" := ⟨_, c1, rfl⟩
  have body : wpAny (model P w) A.in1 (Builtin.«enumerate.__next__» ⟨[.ref cnt], []⟩) (fun fin s' => False)
      (fun x s' => ∃ g, Heap.ExtBut li s.heap g ∧ s' = { s with heap := g } ∧ ∃ y, x = .ref y ∧ ∃ ob, g.get? y = some ob ∧ ob.cls = .type "StopIteration") s := by
    show wpAny _ _ (field (.ref cnt) 2 >>= _) _ _ _
    refine wpAny_bind (wpAny_field c1 rfl (x := .ref li) rfl (wpAny_bind ?_))
    exact wpAny_nextOf_list_end cold c2 l o fun g y eb ob => ⟨g, eb, rfl, y, rfl, ob⟩
  unfold pyNext
  refine wpAny_bind (wpAny_attempt (wpAny_callSpecial?_slot (name := Str.ofString "__next__") ty F.slot_enumerate_next ?_))
  refine wpAny_call_entry F.slot_enumerate_next ty F.entry_enumerate_next (wpAny_mono body (fun _ _ f => f.elim) fun x s' h => ?_) (F.args_enumerate_next_1 _)
  obtain ⟨g, eb, rfl, y, rfl, ob, e1, e2⟩ := h
  exact wpAny_bind (wpAny_isInstance (T := "StopIteration") (b := true) ⟨ob, e1, e2⟩ isSubtype_stop (wpAny_pure (q g eb)))
end
section
variable {P : Program} {w : World} {K : PySem.W.Frag} {elts : List Expr} {kk : Nat} {tpos : Pos}
/-- one turn: the next pair, handed out -/
theorem ctd_item {X : Cx} {pins : List (Addr × Obj)} {σ : L2.St} {G : Hp} {E : Value → Shared → Prop} {a cnt li : Addr} {k : Int} {j : Nat} {s : Shared} {ys : List V} {y : V}
    (cold : X.A.handled = none) (I : Inv X pins σ G s) (fr : ∀ b ∈ [cnt, li], FpOk X pins G b) (c : CtdSt a cnt li k j s.heap) (l : SqL X.K G a ys) (hy : ys[j]? = some y) :
    wpAny (model X.prog X.w) X.A (pyNext (.ref cnt)) (fun r s1 => ∃ u, r = some u ∧
      wpAny (model X.prog X.w) X.A (letOwnedTupleGo (.Tuple elts kk tpos) (.ref cnt) u) (fun _ s2 => ∃ x G', Inv X pins σ G' s2 ∧ RelV x u ∧ (Ctd X.K a k).yld j G x G' ∧ CtdSt a cnt li k (j + 1) s2.heap ∧ ∀ b ∈ [cnt, li], G' b = none) E s1) E s := by
  obtain ⟨ws, rel, at_, _⟩ := I.list l
  obtain ⟨v, hv, rv⟩ := rel.get hy
  obtain ⟨nli, ncnt⟩ := c.apart at_.isList
  obtain ⟨⟨z, c1⟩, c2, ne⟩ := c
  have l1 : cnt < s.heap.objs.size := Heap.lt_size c1
  have l2 : li < s.heap.objs.size := by
    obtain ⟨o, q, _⟩ := c2
    exact Heap.lt_size q
  have small : j < ws.toArray.size := by simpa using (List.getElem?_eq_some_iff.mp hv).1
  have nfp : cnt ∉ [li, a] := by
    intro m
    rcases List.mem_cons.mp m with e | m
    · exact ne e
    · exact ncnt (List.mem_singleton.mp m).symm
  have cold1 : X.A.in1.handled = none := cold
  refine wpAny_pyNext_enum_itemC (Draws.list cold1 li a nli ws.toArray) c1 ⟨c2, at_.isList⟩ small ne nfp fun v2 g tk hv2 out c2' tup sz keep => ?_
  have e : v2 = v := by
    have : ws.toArray[j]? = some v := by simpa using hv
    exact Option.some.inj (hv2.symm.trans this)
  subst e
  refine ⟨_, rfl, wpAny_letOwnedTupleGo_enum (s := { s with heap := g, toks := tk + 1 }) out fun g2 c1' same => ?_⟩
  have tup2 := (same.2 _ (Nat.ne_of_gt l1)).trans tup
  have made : ObjOk X.prog X.w (upd G s.heap.objs.size (.tup [.int (k + (j : Nat)), y])) g2 s.heap.objs.size (.tup [.int (k + (j : Nat)), y]) :=
    ⟨by show 2 ≤ sizeLine; decide, _, .cons ⟨tk, rfl⟩ (.cons rv .nil), ⟨_, tup2, rfl, _, rfl⟩⟩
  have rest : ∀ b o, b ∉ [cnt, li] → s.heap.get? b = some o → g2.get? b = some o := by
    intro b o nb q
    have n1 : b ≠ cnt := fun e => nb (by rw [e]; exact .head _)
    have n2 : b ≠ li := fun e => nb (by rw [e]; exact .tail _ (.head _))
    exact (same.2 b n1).trans (keep b o n1 n2 q)
  refine ⟨.ref s.heap.objs.size, _, I.turnedNew (ch := [cnt, li]) rest fr (Nat.le_refl _) made, rfl, ⟨_, y, rfl, I.hok.fresh (Nat.le_refl _), rfl, fun zs hz => by rw [I.list_inj hz l]; exact hy⟩, ⟨⟨v2, ?_⟩, c2'.1.at fun o q => (same.2 li (Ne.symm ne)).trans q, ne⟩, ?_⟩
  · rw [show k + ((j + 1 : Nat) : Int) = k + ((j : Nat) : Int) + 1 by omega]
    exact c1'
  · intro b hb
    have lb : b < s.heap.objs.size := by
      rcases List.mem_cons.mp hb with e | e
      · rw [e]
        exact l1
      · rw [List.mem_singleton.mp e]
        exact l2
    rw [upd_ne (Nat.ne_of_lt lb)]
    exact (fr b hb).1
theorem ctd_turn (a cnt li : Addr) (k : Int) : Turn P w K (.Tuple elts kk tpos) (Ctd K a k) [cnt, li] cnt (CtdSt a cnt li k) := by
  refine { mem := .head _, obj := ?_, keep := ?_, item := ?_, done := ?_, self := ?_ }
  · intro j g c b m
    obtain ⟨⟨z, c1⟩, ⟨o, q, _, d⟩, _⟩ := c
    rcases List.mem_cons.mp m with rfl | m
    · exact ⟨_, c1, fun v q => nomatch q⟩
    · rw [List.mem_singleton.mp m]
      exact ⟨o, q, fun v q => by rw [d] at q; cases q⟩
  · intro j g g' c kp
    obtain ⟨⟨z, c1⟩, c2, ne⟩ := c
    exact ⟨⟨z, kp _ (.head _) _ c1⟩, c2.at fun o q => kp _ (.tail _ (.head _)) o q, ne⟩
  · rintro X rfl rfl rfl calm j pins s σ G E I fr c ⟨ys, y, l, hy⟩
    exact ctd_item (I.ok.hd calm) I fr c l hy
  · rintro X rfl rfl rfl calm j pins s σ G E I fr c ⟨ys, l, hn⟩
    obtain ⟨ws, rel, at_, _⟩ := I.list l
    obtain ⟨f0, f1, f2, f3, f4, f5⟩ := fr li (.tail _ (.head _))
    have len := rel.length
    obtain ⟨⟨z, c1⟩, c2, ne⟩ := c
    exact ctd_end (I.ok.hd calm) c1 c2 at_.isList (by simp; omega) fun g eb => ⟨rfl, I.turned (t' := s.toks) (fun b o nb q => eb b o nb q) f0 f1 f3 f4 f5⟩
  · intro B j s Q E c q
    obtain ⟨⟨z, c1⟩, _⟩ := c
    exact wpAny_pyIter_enum c1 q
/-- enumerate(xs, start=n) -/
def iCtd (K : PySem.W.Frag) (ta : TA) (tk : TA) : TI := fun σ H R => ta σ H fun vs H1 => tk σ H1 fun ks H2 => ∃ a xs k, vs = [.ref a] ∧ ks = [.int k] ∧ -(2 ^ 63) ≤ k ∧ k < 2 ^ 63 ∧ SqL K H2 a xs ∧ R (Ctd K a k) H2
theorem pi_ctd {X : Cx} {e : Expr} {ta tk : TA} {p pos kpos : Pos} {ke : Expr} (hg : Gl X "enumerate") (hm : X.mg "enumerate" = none) (ha : PA X [e] ta) (hk : PK X [⟨some "start", ke, kpos⟩] tk)
    (he : backTo pos (starEach [e] X.env) = (false, eval e X.env) :: backTo pos (starEach [] X.env) := by rfl) :
    PI X (.Tuple elts kk tpos) (.Call (.Name "enumerate" p) [e] [⟨some "start", ke, kpos⟩] pos) (iCtd X.K ta tk) := by
  refine ⟨fun pins s σ H R I h => wpAny_Call_Name_kw (ld_blt I hg hm boot_enumerate (callWith_type_kw (thn (ha.run pos pins s σ H _ I h) fun us s1 ⟨vs, H1, I1, r1, q1⟩ => thn (hk.run pos pins s1 σ H1 _ I1 q1) fun ws s2 ⟨ks, H2, I2, r2, q2⟩ => ?_) he (by rw [he]; rfl)))⟩
  obtain ⟨a, xs, k, rfl, rfl, k0, k1, l, q⟩ := q2
  obtain ⟨v1, rfl, rv1⟩ : ∃ v1, us = [v1] ∧ RelV (.ref a) v1 := by
    cases r1 with
    | cons r rr => cases rr; exact ⟨_, rfl, r⟩
  obtain ⟨v2, rfl, t, rfl⟩ : ∃ v2, ws = [v2] ∧ RelV (.int k) v2 := by
    cases r2 with
    | cons r rr => cases rr; exact ⟨_, rfl, r⟩
  obtain rfl : v1 = Value.ref a := rv1
  obtain ⟨its, rv, at_, _⟩ := I2.list l
  refine enum_begins_start (begins_list a its.toArray) at_.isList k0 k1 fun g c1 it_ sz kp => wpAny_pyIter_enum c1 ?_
  have I3 : Inv X pins σ H2 { s2 with heap := g } := I2.kept (t' := s2.toks) kp
  refine ⟨s2.heap.objs.size + 1, [s2.heap.objs.size + 1, s2.heap.objs.size], CtdSt a (s2.heap.objs.size + 1) s2.heap.objs.size k, _, H2, rfl, I3, ctd_turn a _ _ k, ⟨⟨.none, ?_⟩, ⟨_, it_, rfl, rfl⟩, Nat.succ_ne_self _⟩, fun b hb => ?_, q⟩
  · rw [show k + ((0 : Nat) : Int) = k by omega]
    exact c1
  · have lb : s2.heap.objs.size ≤ b := by
      rcases List.mem_cons.mp hb with e | e
      · rw [e]
        exact Nat.le_add_right _ _
      · rw [List.mem_singleton.mp e]
        exact Nat.le_refl _
    exact I2.fpOk lb (I2.hok.fresh lb)
/-- for i, x in enumerate(xs, start=k) -/
theorem for_ctd {a : Addr} {xs : List V} {g : TG} {tb : TS} {D : Ends} {σ : L2.St} {H : Hp} {c : Int} (Pv : Nat → L2.St → Hp → Prop) (h0 : Pv 0 σ H)
    (hl : ∀ i σ H, i ≤ xs.length → Pv i σ H → SqL K H a xs)
    (hs : ∀ i x T σ H, xs[i]? = some x → Pv i σ H → H T = none → g (.ref T) σ (upd H T (.tup [.int (c + (i : Nat)), x])) fun σ2 H2 => tb { D with nx := Pv (i + 1), ct := Pv (i + 1), bk := D.nx } σ2 H2)
    (hd : ∀ σ H, Pv xs.length σ H → D.nx σ H) :
    ∃ W : Nat → Nat → L2.St → Hp → Prop, (∃ m, W 0 m σ H) ∧ ∀ i m σ H, W i m σ H →
      ((Ctd K a c).stop i H ∧ D.nx σ H) ∨ ((Ctd K a c).go i H ∧ ∃ N : L2.St → Hp → Prop, (∀ σ' H', N σ' H' → ∃ m', m' < m ∧ W (i + 1) m' σ' H') ∧
        ∀ x H', (Ctd K a c).yld i H x H' → g x σ H' fun σ2 H2 => tb { D with nx := N, ct := N, bk := D.nx } σ2 H2) := by
  refine ⟨fun i m σ H => m + i = xs.length ∧ Pv i σ H, ⟨xs.length, rfl, h0⟩, ?_⟩
  rintro i m σ H ⟨e, p⟩
  have q := hl i σ H (by omega) p
  by_cases hlt : i < xs.length
  · refine .inr ⟨⟨xs, xs[i], q, List.getElem?_eq_getElem hlt⟩, Pv (i + 1), fun σ' H' p' => ⟨m - 1, by omega, by omega, p'⟩, ?_⟩
    rintro x H' ⟨T, y, rfl, nT, rfl, fv⟩
    exact hs i y T σ H (fv xs q) p nT
  · have ei : i = xs.length := by omega
    subst ei
    exact .inl ⟨⟨xs, q, Nat.le_refl _⟩, hd σ H p⟩
end
end My
/-! cls(e, ..) by a local name; == by an own __eq__ with either answer; tuples of tuples of ints compared. -/
namespace My
open PySem L2 PySem.Calls PyProof.Rows
section
variable {X : Cx} {CX : CXT} {k i : Nat} {f C : Addr} {fd : FuncData} {ps : List Str} {sp : Sp} {dvs : List V} {ds : List Value} {E : XK} {x : Str} {p pos : Pos} {e : Expr} {es : List Expr} {t : TA}
/-- the name in slot i holds the class at C, which is made -/
def tMakeAt (i : Nat) (C : Addr) (sp : Sp) (dvs : List V) (E : XK) (t : TA) : TE := fun σ H Q => σ[i]? = some (some (.ref C)) ∧ tMake C sp dvs E t σ H Q
theorem pe_makeAt (M : Mk X.K C f) (F : FnOk X.prog X.w X.K X.mg X.base CX k f fd ps sp) (hr : Room (k + 1) X.A) (hb : Binds X.K fd ps ds) (hd : Vals dvs ds) (hx : Passes CX X E)
    (hN : X.N[i]? = some x) (hv : Vis X.env.scope x) (ha : PA X (e :: es) t) (n1 : (x == ("__debug__" : Str)) = false := by decide) (n2 : (x == ("__classdict__" : Str)) = false := by decide)
    (s1 : starEach (e :: es) X.env = (false, eval e X.env) :: starEach es X.env := by rfl) (s2 : (backTo pos (starEach es X.env)).any (·.1) = false := by rfl) :
    PE X (.Call (.Name x p) (e :: es) [] pos) (tMakeAt i C sp dvs E t) := by
  refine ⟨fun pins s σ H Q I ⟨at_, h⟩ => ?_⟩
  have name := (pe_var (pos := p) (i := i) hN hv n1 n2).run pins s σ H (fun v H1 => v = .ref C ∧ H1 = H) I ⟨.ref C, at_, rfl, rfl⟩
  refine wpAny_Call_Name_kw (thn name fun u t1 ⟨v, H1, I1, r1, e1, e2⟩ => ?_)
  subst e1 e2
  obtain rfl : u = Value.ref C := r1
  refine PySem.W.callWith_K (h₀ := X.base) I1.ok.mod.kin M.kp (thn (ha.run pos pins t1 σ _ _ I1 h) fun us t2 ⟨vs, H2, I2, r, q⟩ => ⟨I2.kIn, ?_⟩) s1 s2
  exact run_make M F hr hb hd hx I2 r q
/-- the answer r that an own __eq__ gives -/
def rEqOwn (C : Addr) (R : Addr → Addr → Hp → Bool → Prop) : R2 := fun x y H Q => ∃ a b dx dy fs gs r, x = .ref a ∧ y = .ref b ∧ H a = some (.ins C dx fs) ∧ H b = some (.ins C dy gs) ∧ R a b H r ∧ ∀ H', Same H H' → Q (.bl r) H'
def spEqB (R : Addr → Addr → Hp → Bool → Prop) : Sp := fun vs H Q _ => ∃ a b r, vs = [.ref a, .ref b] ∧ R a b H r ∧ ∀ H', Same H H' → Q (.bl r) H'
theorem op_eqOwn {R : Addr → Addr → Hp → Bool → Prop} (F : FnOk X.prog X.w X.K X.mg X.base CX k f fd ps (spEqB R)) (hr : Room k X.A) (hs : PySem.W.findIn X.K (.ref C) "__eq__" = some (some (.ref f))) (hf : PySem.W.isFn X.K (.ref f) = true)
    (hb : Binds X.K fd ps []) (hx : Passes CX X E) : OpR X (compareOp .Eq) (rEqOwn C R) := by
  intro pins s σ H x y v u Q I rx ry hq
  obtain ⟨a, b, dx, dy, fs, gs, r, rfl, rfl, ha, hb', hR, q⟩ := hq
  obtain rfl : v = Value.ref a := rx
  obtain rfl : u = Value.ref b := ry
  obtain ⟨_, ja, _⟩ := ins_get I.hok ha
  obtain ⟨_, jb, _⟩ := ins_get I.hok hb'
  obtain ⟨_, ka, _⟩ := ja.look
  obtain ⟨_, kb, _⟩ := jb.look
  obtain ⟨m, fr⟩ := I.fr
  show wpAny (model X.prog X.w) X.A (richCompare .Eq (.ref a) (.ref b)) (EP X pins σ Q) X.xe s
  refine PySem.W.cmp_K (op := .Eq) (tb := .ref C) hr.units0 fr I.ok.mod.kin ka kb.type (by simp [PySem.W.notFirst]) hs hf ?_
  have run : wpAny (model X.prog X.w) X.A (call (.ref f) [.ref a, .ref b]) (EP X pins σ fun z H' => z = .bl r ∧ Q z H') X.xe s :=
    run_fn (us := [.ref a, .ref b]) (vs := [.ref a, .ref b]) (dvs := []) (ds := []) F hr hb .nil hx I (.cons rfl (.cons rfl .nil)) ⟨a, b, r, rfl, hR, fun H' sm => ⟨rfl, q H' sm⟩⟩
  refine thn run fun w1 s1 ⟨z, H1, I1, r1, e1, q1⟩ => ?_
  subst e1
  obtain rfl : w1 = Value.bool r := r1
  exact ⟨.bl r, H1, I1, rfl, q1⟩
end
/-- rows as data -/
def rowD (ns : List Int) : PyData := .tuple (ns.map PyData.int)
def tabD (nss : List (List Int)) : PyData := .tuple (nss.map rowD)
section
variable {K : PySem.W.Frag} {H : Hp}
theorem dp_ints : ∀ ns : List Int, DpAll K H (ns.map V.int) (ns.map PyData.int)
  | [] => .nil
  | n :: r => .cons (.int n) (dp_ints r)
theorem dp_rows : ∀ {ts : List Addr} {nss : List (List Int)}, Paired (fun t ns => H t = some (.tup (ns.map V.int))) ts nss → DpAll K H (ts.map V.ref) (nss.map rowD)
  | _, _, .nil => .nil
  | _, _, .cons h t => .cons (.tup (SqT.of h) (dp_ints _)) (dp_rows t)
theorem dp_tab {p : Addr} {ts : List Addr} {nss : List (List Int)} (h : H p = some (.tup (ts.map V.ref))) (t : Paired (fun t ns => H t = some (.tup (ns.map V.int))) ts nss) : Dp K H (.ref p) (tabD nss) := .tup (SqT.of h) (dp_rows t)
end
theorem lay_ints : ∀ ns : List Int, PyData.canLayAll0 (ns.map PyData.int) = true
  | [] => rfl
  | n :: r => by
    rw [List.map_cons, PyData.canLayAll0, lay_ints r]
    rfl
theorem lay_rows : ∀ nss : List (List Int), PyData.canLayAll0 (nss.map rowD) = true
  | [] => rfl
  | ns :: r => by
    rw [List.map_cons, PyData.canLayAll0, lay_rows r, Bool.and_true]
    exact lay_ints ns
theorem eqv_ints : ∀ ms ns : List Int, PyData.eqvAll (ms.map PyData.int) (ns.map PyData.int) = decide (ms = ns)
  | [], [] => rfl
  | [], n :: r => rfl
  | m :: r, [] => rfl
  | m :: r, n :: t => by
    rw [List.map_cons, List.map_cons, PyData.eqvAll, eqv_ints r t, PyData.eqv]
    by_cases e : m = n <;> simp [e]
theorem eqv_rows : ∀ ms ns : List (List Int), PyData.eqvAll (ms.map rowD) (ns.map rowD) = decide (ms = ns)
  | [], [] => rfl
  | [], n :: r => rfl
  | m :: r, [] => rfl
  | m :: r, n :: t => by
    rw [List.map_cons, List.map_cons, PyData.eqvAll, eqv_rows r t, rowD, rowD, PyData.eqv, eqv_ints]
    simp
theorem depth_ints : ∀ ns : List Int, PyData.depthAll (ns.map PyData.int) ≤ 1
  | [] => by decide
  | n :: r => by
    have := depth_ints r
    rw [List.map_cons, PyData.depthAll]
    refine Nat.max_le.mpr ⟨?_, this⟩
    rw [PyData.depth]
    omega
theorem depth_rows : ∀ nss : List (List Int), PyData.depthAll (nss.map rowD) ≤ 5
  | [] => by decide
  | ns :: r => by
    have h1 := depth_rows r
    have h2 := depth_ints ns
    rw [List.map_cons, PyData.depthAll]
    refine Nat.max_le.mpr ⟨?_, h1⟩
    rw [rowD, PyData.depth]
    omega
theorem shaped_tab (nss : List (List Int)) : SeqAt.shaped (tabD nss) = true := by
  unfold SeqAt.shaped
  rw [Bool.and_eq_true]
  refine ⟨lay_rows nss, decide_eq_true ?_⟩
  have := depth_rows nss
  rw [tabD, PyData.depth]
  omega
theorem eqv_tab (ms ns : List (List Int)) : PyData.eqv (tabD ms) (tabD ns) = decide (ms = ns) := by
  rw [tabD, tabD, PyData.eqv, eqv_rows]
end My
namespace My
open PySem L2 PySem.Calls PyProof.Rows
/-! a list of lists of ints, and whether it is empty -/
def lrowD (ns : List Int) : PyData := .list (ns.map PyData.int)
def ltabD (nss : List (List Int)) : PyData := .list (nss.map lrowD)
theorem ldp_rows {K : PySem.W.Frag} {H : Hp} : ∀ {ts : List Addr} {nss : List (List Int)}, Paired (fun t ns => H t = some (.lst (ns.map V.int))) ts nss → DpAll K H (ts.map V.ref) (nss.map lrowD)
  | _, _, .nil => .nil
  | _, _, .cons h t => .cons (.lst (SqL.of h) (dp_ints _)) (ldp_rows t)
theorem ldp_tab {K : PySem.W.Frag} {H : Hp} {p : Addr} {ts : List Addr} {nss : List (List Int)} (h : H p = some (.lst (ts.map V.ref))) (t : Paired (fun t ns => H t = some (.lst (ns.map V.int))) ts nss) : Dp K H (.ref p) (ltabD nss) := .lst (SqL.of h) (ldp_rows t)
theorem llay_rows : ∀ nss : List (List Int), PyData.canLayAll0 (nss.map lrowD) = true
  | [] => rfl
  | ns :: r => by
    rw [List.map_cons, PyData.canLayAll0, llay_rows r, Bool.and_true]
    exact lay_ints ns
theorem ldepth_rows : ∀ nss : List (List Int), PyData.depthAll (nss.map lrowD) ≤ 5
  | [] => by decide
  | ns :: r => by
    have h1 := ldepth_rows r
    have h2 := depth_ints ns
    rw [List.map_cons, PyData.depthAll]
    refine Nat.max_le.mpr ⟨?_, h1⟩
    rw [lrowD, PyData.depth]
    omega
theorem shaped_ltab (nss : List (List Int)) : SeqAt.shaped (ltabD nss) = true := by
  unfold SeqAt.shaped
  rw [Bool.and_eq_true]
  refine ⟨llay_rows nss, decide_eq_true ?_⟩
  have := ldepth_rows nss
  rw [ltabD, PyData.depth]
  omega
theorem eqv_none (nss : List (List Int)) : PyData.eqv (ltabD nss) (.list []) = nss.isEmpty := by
  cases nss <;> rfl
/-- a list of ints, each as told -/
theorem Gives.ints {B : Int → Prop} {n : Nat} {ys : List V} (h : Gives (fun _ y => ∃ i, y = .int i ∧ B i) n ys) : ∃ ns : List Int, ys = ns.map V.int ∧ ns.length = n ∧ ∀ i ∈ ns, B i := by
  obtain ⟨h1, h2⟩ := h
  have all : ∀ y ∈ ys, ∃ i, y = V.int i ∧ B i := by
    intro y hy
    obtain ⟨j, hj, rfl⟩ := List.mem_iff_getElem.mp hy
    exact h2 j _ (List.getElem?_eq_getElem hj)
  clear h2
  induction ys generalizing n with
  | nil => exact ⟨[], rfl, h1, fun _ h => nomatch h⟩
  | cons y r ih =>
    obtain ⟨i, rfl, b⟩ := all y (.head _)
    obtain ⟨ns, e1, e2, e3⟩ := ih (n := r.length) rfl fun z m => all z (.tail _ m)
    refine ⟨i :: ns, by rw [e1]; rfl, by rw [List.length_cons, e2, ← h1, List.length_cons], fun j m => ?_⟩
    rcases List.mem_cons.mp m with rfl | m
    · exact b
    · exact e3 j m
end My
namespace My
open PySem L2 PySem.Calls PyProof.Rows
theorem pi_listK {X : Cx} {K : PySem.W.Frag} {tg e : Expr} {te : TE} (h : X.K = K) (he : PE X e te) : PI X tg e (iList K te) := h ▸ pi_list he
theorem pi_tupK {X : Cx} {K : PySem.W.Frag} {tg e : Expr} {te : TE} (h : X.K = K) (he : PE X e te) : PI X tg e (iTup K te) := h ▸ pi_tup he
end My
namespace My
open PySem L2 PySem.Calls PyProof.Rows
def rJoin (K : PySem.W.Frag) : V → List V → Hp → VK → Prop := fun x xs H Q => ∃ a p, ∃ ys : List Str, x = .str a ∧ xs = [.ref p] ∧ (SqL K H p (ys.map V.str) ∨ SqT K H p (ys.map V.str)) ∧ (ys.map (·.length)).sum + ys.length * a.length ≤ 16777216 ∧ Q (.str (Txt.join a ys)) H
theorem pe_joinK {X : Cx} {K : PySem.W.Frag} {o e : Expr} {to te : TE} {apos pos : Pos} (h : X.K = K) (ho : PE X o to) (he : PE X e te) (hs : starEach [e] X.env = [(false, eval e X.env)] := by rfl)
    (h1 : attributeBase o "join" X.env (eval o X.env) = eval o X.env := by rfl) (h2 : (apos.endLine == pos.line) = true := by rfl) :
    PE X (.Call (.Attribute o "join" apos) [e] [] pos) (tM1 (rJoin K) to te) := by
  subst h
  exact pe_join ho he hs h1 h2
end My
/-! A def with defaults, all of whose arguments are written. -/
namespace My
open PySem L2 PySem.Calls PyProof.Rows
theorem bind_dflt {K : PySem.W.Frag} {fd : FuncData} {ps : List Str} {T : Addr} {oT : Obj} {its : Array Value} {n : Nat} (lT : K.lookup T = some oT) (hT : oT.data = .seq its n)
    (h : ∀ us : List Value, us.length = ps.length → ∃ k, bindArgs fd ⟨us, []⟩ = seqItems? (.ref T) >>= k ∧ k (some its) = pure (ps.zip us)) : Binds K fd ps [] := by
  intro s us X hl
  rw [List.append_nil] at hl ⊢
  obtain ⟨k, e1, e2⟩ := h us hl
  refine BindsTo.of_looks fun M => ?_
  rw [e1]
  exact looks_items X lT hT (.of_pure e2)
end My
/-! Which texts are whole numbers as they are written, which lines are rows. -/
namespace My
open PySem L2 PySem.Calls PyProof.Rows
open TL NumText
theorem canon_pos : ∀ (n : Nat) (c : Nat) (r : List Nat), r.length = n → AllDigits (c :: r) → 49 ≤ c → numL (digitsVal (c :: r)) = c :: r
  | 0, c, r, hl, hd, hc => by
    have e : r = [] := List.length_eq_zero_iff.mp hl
    subst e
    have h := hd.head
    have ev : digitsVal [c] = c - 48 := by simp [digitsVal]
    rw [ev, numL_lt (by omega)]
    congr 1
    omega
  | n + 1, c, r, hl, hd, hc => by
    have hne : r ≠ [] := fun e => by
      rw [e] at hl
      cases hl
    obtain ⟨q, d, rfl⟩ : ∃ q d, r = q ++ [d] := ⟨r.dropLast, r.getLast hne, (List.dropLast_concat_getLast hne).symm⟩
    have lq : q.length = n := by
      rw [List.length_append, List.length_singleton] at hl
      omega
    have hd2 : AllDigits (c :: q) := fun x hx => hd x (by
      rw [← List.cons_append]
      exact List.mem_append_left _ hx)
    have hdd : 48 ≤ d ∧ d ≤ 57 := hd d (by
      rw [← List.cons_append]
      exact List.mem_append_right _ (.head _))
    have ih := canon_pos n c q lq hd2 hc
    have hp : 0 < digitsVal (c :: q) := digitsVal_pos hc
    rw [← List.cons_append, digitsVal_snoc, numL_step (by omega)]
    have e1 : (digitsVal (c :: q) * 10 + (d - 48)) / 10 = digitsVal (c :: q) := by omega
    have e2 : (digitsVal (c :: q) * 10 + (d - 48)) % 10 = d - 48 := by omega
    rw [e1, e2, ih]
    congr 1
    congr 1
    omega
/-- the signs of a number from 0 on, as it is written -/
def Can (cs : List Nat) : Prop := AllDigits cs ∧ cs ≠ [] ∧ (cs[0]? = some 48 → cs = [48])
theorem can_num (n : Nat) : Can (numL n) := by
  refine ⟨numL_digits n, numL_ne n, fun h => ?_⟩
  rcases numL_head n with ⟨_, e⟩ | ⟨c, r, e, h1, h2⟩
  · exact e
  · rw [e] at h
    cases h
    omega
theorem num_can {cs : List Nat} (h : Can cs) : numL (digitsVal cs) = cs := by
  obtain ⟨h1, h2, h3⟩ := h
  cases cs with
  | nil => exact absurd rfl h2
  | cons c r =>
    by_cases e : c = 48
    · subst e
      have := h3 rfl
      rw [this]
      decide +kernel
    · have := h1.head
      exact canon_pos r.length c r rfl h1 (by omega)
theorem val_lt : ∀ (cs : List Nat), AllDigits cs → digitsVal cs < 10 ^ cs.length := by
  have key : ∀ (cs : List Nat) (a : Nat), AllDigits cs → cs.foldl (fun acc c => acc * 10 + (c - 48)) a < (a + 1) * 10 ^ cs.length := by
    intro cs
    induction cs with
    | nil =>
      intro a _
      simp
    | cons c r ih =>
      intro a h
      have hc := h.head
      have := ih (a * 10 + (c - 48)) h.tail
      rw [List.foldl_cons, List.length_cons, Nat.pow_succ]
      refine Nat.lt_of_lt_of_le this ?_
      have e : (a + 1) * (10 ^ r.length * 10) = ((a + 1) * 10) * 10 ^ r.length := by
        rw [Nat.mul_comm (10 ^ r.length) 10, Nat.mul_assoc]
      rw [e]
      exact Nat.mul_le_mul_right _ (by omega)
  intro cs h
  have := key cs 0 h
  rw [Nat.zero_add, Nat.one_mul] at this
  exact this
theorem ascii_digit : ∀ c : Nat, c < 128 → Unicode.isDigit c = true → 48 ≤ c ∧ c ≤ 57 := by decide +kernel
/-- ascii and digits: just the ten signs, and there is one -/
theorem digits_iff (x : Str) : (Txt.isascii x = true ∧ Txt.isdigit x = true) ↔ (AllDigits (tl x) ∧ tl x ≠ []) := by
  constructor
  · rintro ⟨h1, h2⟩
    unfold Txt.isascii at h1
    unfold Txt.isdigit at h2
    rw [← Array.all_toList, List.all_eq_true] at h1
    rw [Bool.and_eq_true, ← Array.all_toList, List.all_eq_true] at h2
    refine ⟨fun c hc => ascii_digit c (of_decide_eq_true (h1 c hc)) (h2.2 c hc), fun e => ?_⟩
    have := of_decide_eq_true h2.1
    rw [len_tl, e] at this
    exact absurd this (by decide)
  · rintro ⟨h1, h2⟩
    unfold Txt.isascii Txt.isdigit
    rw [← Array.all_toList, List.all_eq_true, Bool.and_eq_true, ← Array.all_toList, List.all_eq_true]
    refine ⟨fun c hc => ?_, ?_, fun c hc => ?_⟩
    · have := h1 c hc
      exact decide_eq_true (by omega)
    · apply decide_eq_true
      rw [len_tl]
      exact List.length_pos_iff.mpr h2
    · have := h1 c hc
      exact isDigit_dec c (by omega) (by omega)
/-- the word is the text of a whole number -/
def IsNum (w : Str) : Prop := ∃ i, w = tx i
theorem isnum_iff (w : Str) : IsNum w ↔ (Can (tl w) ∨ ∃ r, tl w = 45 :: r ∧ Can r ∧ r ≠ [48]) := by
  constructor
  · rintro ⟨i, rfl⟩
    cases i with
    | ofNat n =>
      refine .inl ?_
      rw [show tl (tx (Int.ofNat n)) = numL n from tl_pos n]
      exact can_num n
    | negSucc n =>
      refine .inr ⟨_, tl_neg n, can_num _, fun e => ?_⟩
      have := numL_val (n + 1)
      rw [e] at this
      have h48 : digitsVal [48] = 0 := by decide
      omega
  · rintro (h | ⟨r, e, h, h0⟩)
    · exact ⟨(digitsVal (tl w) : Nat), ext_tl (by rw [tl_pos]; exact (num_can h).symm)⟩
    · have hp : digitsVal r ≠ 0 := fun z => by
        have := num_can h
        rw [z, numL_lt (by decide)] at this
        exact h0 this.symm
      refine ⟨Int.negSucc (digitsVal r - 1), ext_tl ?_⟩
      rw [tl_neg, e, show digitsVal r - 1 + 1 = digitsVal r by omega, num_can h]
theorem num_sz {w : Str} {i : Int} (h : w = tx i) (hl : w.length ≤ 59) : Sz i := by
  show i.natAbs < 10 ^ 60
  rw [h, len_tl] at hl
  cases i with
  | ofNat n =>
    rw [show tl (tx (Int.ofNat n)) = numL n from tl_pos n] at hl
    have h1 := val_lt _ (numL_digits n)
    rw [numL_val] at h1
    have h2 := Nat.pow_le_pow_right (by decide : 0 < 10) hl
    show n < 10 ^ 60
    have : (10 : Nat) ^ 59 ≤ 10 ^ 60 := by decide
    omega
  | negSucc n =>
    rw [tl_neg, List.length_cons] at hl
    have h1 := val_lt _ (numL_digits (n + 1))
    rw [numL_val] at h1
    have h2 := Nat.pow_le_pow_right (by decide : 0 < 10) (by omega : (numL (n + 1)).length ≤ 59)
    show n + 1 < 10 ^ 60
    have : (10 : Nat) ^ 59 ≤ 10 ^ 60 := by decide
    omega
/-- .. and a field has it -/
def NumF (f : Int) (w : Str) : Prop := ∃ i, w = tx i ∧ (f ≠ 0 → 0 ≤ i ∧ i < f)
theorem len_cut1 (w : Str) : tl (cutS w (some 1) none) = (tl w).drop 1 := by
  unfold cutS
  show ((tl w).drop _).take _ = _
  have e1 : HT.sIx w.length 0 (some 1) = min 1 w.length := by
    simp only [HT.sIx]
    first | omega | (simp; omega) | simp
  have e2 : HT.sIx w.length w.length none = w.length := by simp [HT.sIx]
  rw [e1, e2, len_tl w]
  cases h : tl w with
  | nil => rfl
  | cons c r =>
    simp
theorem starts_zero' (w : Str) : Txt.startswith w "0" = decide ((tl w)[0]? = some 48) := by
  rw [show (("0" : String) : Str) = ⟨#[48]⟩ from rfl, starts_one]
theorem starts_minus' (w : Str) : Txt.startswith w "-" = decide ((tl w)[0]? = some 45) := by
  rw [show (("-" : String) : Str) = ⟨#[45]⟩ from rfl, starts_one]
theorem zero_tl (w : Str) : w = ("0" : Str) ↔ tl w = [48] := by
  constructor
  · rintro rfl
    rfl
  · intro h
    exact ext_tl h
end My
/-! raise C(e) and except C as e, C with its own __init__ that keeps e as a field. -/
namespace My
open PySem L2
theorem raise_in {K : PySem.W.Frag} {C : Addr} {fld : Str} (J : InitOf K C C fld) {H1 : Hp} {v : V} {Q : XK} (h : ∀ d, H1 d = none → Q (.ref C) (some d) (upd H1 d (.xd [(fld, v)]))) :
    [v].length ≤ 1000 ∧ ∀ a, H1 a = none → spInit K C fld (.ref a :: ([v] ++ [])) (upd H1 a (exo a C none))
      (fun w H2 => w = .non ∧ ∃ (d : Addr) (fs : List (Str × V)), H2 a = some (exo a C (some d)) ∧ H2 d = some (exd d fs) ∧ H1 d = none ∧ Q (.ref C) (some d) (upd (del H2 a) d (.xd fs))) (fun _ _ _ => False) := by
  refine ⟨Nat.le_of_ble_eq_true rfl, fun a ha => ⟨a, C, v, rfl, J, upd_same, fun dx hdx nd => ⟨rfl, dx, [(fld, v)], upd_same, ?_, ?_, ?_⟩⟩⟩
  · rw [upd_ne nd, upd_same]
  · rw [upd_ne nd] at hdx
    exact hdx
  · rw [upd_ne nd] at hdx
    have e : upd (del (upd (upd (upd H1 a (exo a C none)) dx (exd dx [(fld, v)])) a (exo a C (some dx))) a) dx (.xd [(fld, v)]) = upd H1 dx (.xd [(fld, v)]) := by
      funext b
      by_cases e1 : b = dx
      · rw [e1, upd_same, upd_same]
      · rw [upd_ne e1, upd_ne e1]
        by_cases e2 : b = a
        · rw [e2, del_same, ha]
        · rw [del_ne e2, upd_ne e2, upd_ne e1, upd_ne e2]
    rw [e]
    exact h dx hdx
section
variable {X : Cx} {x fld : Str} {C fI : Addr} {fd : FuncData} {e : Expr} {te : TE} {p pos pos2 : Pos} {W : WX}
/-- raise C(e) -/
theorem ps_raiseM (M : Made X.K X.prog X.mg x fld C fI fd) (hr : Room 1 X.A) (hc : X.calm = true) (tk : Takes X W) (hg : Gl X x) (he : PE X e te)
    (hdb : (x == ("__debug__" : Str)) = false := by decide) (hs : starEach (e :: []) X.env = (false, eval e X.env) :: starEach [] X.env := by rfl) (hpl : (backTo pos (starEach [] X.env)).any (·.1) = false := by rfl) :
    PS X (.Raise (some (.Call (.Name x p) [e] [] pos)) none pos2) (fun _ σ H => tMkO C (spInit X.K C fld) [] (tCons te tNil) σ H fun cls d H' => W cls d σ H') :=
  ps_raise hc tk (pmk_oex M.of.T M.ini M.ti (init_ok (CX := CX0) M.fn M.sup) hr M.bp .nil pass0 hg M.at_ (pa_cons he pa_nil hs) hdb hs hpl)
end
theorem Made.xf {K : PySem.W.Frag} {P : Program} {mg : Str → Option Value} {x fld : Str} {C fI : Addr} {fd : FuncData} (M : Made K P mg x fld C fI fd) : XfC K C := by
  obtain ⟨nm, q, N, bs, bm, sn, sub, ab, col, dd, k0, k1, k2, k3, k5, hC, hbm⟩ := M.of.T.cls
  refine ⟨M.ex.hga, M.ex.hgt, M.ex.sub, ?_⟩
  unfold PySem.W.hasDictIn PySem.W.clsIn
  rw [hC]
  rfl
theorem Made.exm {K : PySem.W.Frag} {P : Program} {mg : Str → Option Value} {x fld : Str} {C fI : Addr} {fd : FuncData} (M : Made K P mg x fld C fI fd) {cls : Value} {b : Bool} (h : PySem.W.subIn K cls (.ref C) = some b) : PySem.W.exmOne K cls (.ref C) = some b := by
  -- exm_self
  unfold PySem.W.exmOne PySem.W.kitCls
  have e2 : ((PySem.W.clsIn K C).isSome && PySem.W.typeIn K (.ref C) == some (.type "type")) = true := by
    rw [M.ex.cls, M.of.T.tyC]
    decide
  rw [if_pos (by rw [M.ex.sub]; decide)]
  show (if ((PySem.W.clsIn K C).isSome && PySem.W.typeIn K (.ref C) == some (.type "type")) = true then PySem.W.subIn K cls (.ref C) else none) = some b
  rw [if_pos e2, h]
end My
/-! A class method called in a try's body. -/
namespace My
open PySem L2
section
variable {X : Cx} {CX : CXT} {k : Nat} {g C p : Addr} {fd : FuncData} {ps : List Str} {sp : Sp} {E : St → XK} {m : Str} {mc : Value} {apos pos : Pos} {e o : Expr} {es : List Expr} {to : TE} {t : TA}
def tCMethS (C : Addr) (sp : Sp) (E : St → XK) (to : TE) (t : TA) : TE := fun σ H Q => to σ H fun x H1 => x = .ref C ∧ t σ H1 fun vs H2 => sp (.ref C :: vs) H2 Q (E σ)
theorem pe_cmethS {pl : Sem Bool} (ho : PE X o to) (R : ClX.CRead X.K C mc) (M : ClX.CMet X.K C mc m p g) (G : FnOk X.prog X.w X.K X.mg X.base CX k g fd ps sp) (room : Room k X.A) (bd : Binds X.K fd ps []) (out : ∀ σ, PassesAt CX X σ (E σ)) (hargs : PA X (e :: es) t)
    (h1 : starEach (e :: es) X.env = (false, eval e X.env) :: starEach es X.env := by rfl) (h2 : (backTo pos (starEach es X.env)).any (·.1) = false := by rfl)
    (tree : eval (.Call (.Attribute o m apos) (e :: es) [] pos) X.env = (do
      let it ← eval o X.env
      standAt apos.atName
      let (q, before) ← holding [it] (getMethod it m pl)
      callWith pos q before (backTo pos (starEach (e :: es) X.env)) (backToKw pos (keywordEach [] X.env))) := by rfl) :
    PE X (.Call (.Attribute o m apos) (e :: es) [] pos) (tCMethS C sp E to t) := by
  refine ⟨fun pn s σ H Q inv want => ?_⟩
  refine PySem.W.methodCall_KW (pl := pl) (thn (ho.run pn s σ H _ inv want) fun u sa ⟨x, Ha, ia, rx, ex, rest⟩ => ?_) tree
  subst ex
  obtain rfl : u = Value.ref C := rx
  refine ClX.getmethcm_ok ia R M fun sb ib => ?_
  refine ClX.callwith_cm ib (ClX.base_none ia (Nat.le_refl _)) M.fi (thn (hargs.run pos _ sb σ Ha _ ib rest) fun us sc ⟨vs, Hb, ic, rv, rest2⟩ => ⟨⟨ClX.pin_at ic, ic.kIn⟩, ?_⟩) h1 h2
  have many : (Value.ref C :: us).length = ps.length := by
    rw [← G.len _ _ _ _ rest2, ← Paired.length (show Vals (V.ref C :: vs) (Value.ref C :: us) from .cons rfl rv)]
  have bound := bd sc (.ref C :: us) ic.kIn (by rw [List.append_nil]; exact many)
  rw [List.append_nil] at bound
  have z : wpAny (model X.prog X.w) X.A (call (.ref sa.heap.objs.size) us) (EP X ((sa.heap.objs.size, PySem.W.methodObj (.ref g) (.ref C)) :: pn) σ Q) X.xe sc := by
    refine wpAny_call (PySem.W.method_call (ClX.pin_at ic) (codeAny_mono (G.run X.A X.stack sc Hb ⟨.ref C :: us, []⟩ (.ref C :: us) (.ref C :: vs) Q (E σ) room ic.env0 bound (.cons rfl rv) rest2) fun r sd back => ?_))
    cases r with
    | error err => exact out σ _ Hb sc err sd ic back
    | ok fl =>
      cases fl with
      | ret u => exact ic.after back
      | next => exact back.elim
      | brk => exact back.elim
      | cont => exact back.elim
  exact thn z fun _ _ y => ClX.unpinE y
end
end My
/-! Comprehensions with a test that only make new things. -/
namespace My
open PySem L2
section
variable {J : It} {n : Nat} {G : Hp → Prop} {Y : Nat → Hp → V → Hp → Prop} {D : Addr} {i : Nat} {vs : List Nat} {tt : TT} {te : TE} {σ : L2.St} {H1 : Hp} {Qd : Hp → Prop}
theorem filt_it (w : Walk J n G Y) (gs : List (Option V)) (hl : gs.length = n) (hG : ∀ H, Same H1 H → G H) (nD : H1 D = none) (sz : n ≤ 10000) (hE : ∀ j H x H', Y j H x H' → H' = H)
    (hw : ∀ x, wipe ((wipe σ vs).set i (some x)) vs = wipe σ vs)
    (hs : ∀ (j : Nat) (x : V) (o : Option V) (H : Hp), Y j H x H → gs[j]? = some o → Same H1 H → ∀ (N : Hp → Prop) (R : VK), (o = none → ∀ H4, Same H H4 → N H4) → (∀ y, o = some y → ∀ H4, Same H H4 → R y H4) →
      tt ((wipe σ vs).set i (some x)) H fun b H3 => if b = true then te ((wipe σ vs).set i (some x)) H3 R else N H3)
    (hd : ∀ H, Same H1 H → H D = some (.lst (gs.filterMap id)) → Qd H) :
    ∃ W : Nat → Nat → Hp → Prop, (∃ m, W 0 m (upd H1 D (.lst []))) ∧ ∀ i0 m H, W i0 m H →
      (J.stop i0 H ∧ Qd H) ∨ (J.go i0 H ∧ ∃ Nx : Hp → Prop, (∀ H', Nx H' → ∃ m', m' < m ∧ W (i0 + 1) m' H') ∧ ∀ x H', J.yld i0 H x H' → gName i x (wipe σ vs) H' fun σ2 H2 => wipe σ2 vs = wipe σ vs ∧ tt σ2 H2 fun b H3 =>
        if b = true then te σ2 H3 fun y H4 => ∃ acc, H4 D = some (.lst acc) ∧ acc.length < sizeLine ∧ Nx (upd H4 D (.lst (acc ++ [y]))) else Nx H3) := by
  refine lc_it w (fun j H => Same H1 H ∧ H D = some (.lst ((gs.take j).filterMap id))) ⟨same_upd3 nD, upd_same⟩ (fun j H _ h => hG H h.1) ?_ ?_
  · rintro j x H H' hj ⟨sH, e⟩ y
    obtain rfl := hE j H x H' y
    refine ⟨hw x, ?_⟩
    have ho : gs[j]? = some gs[j] := List.getElem?_eq_getElem (by omega)
    refine hs j x _ H' y ho sH _ _ (fun hn H4 s4 => ⟨sH.trans s4, ?_⟩) fun z hz H4 s4 => ⟨_, s4 _ _ e, ?_, ?_, ?_⟩
    · rw [List.take_succ, ho, hn]
      rw [s4 _ _ e]
      simp
    · have h1 := List.length_filterMap_le id (gs.take j)
      rw [List.length_take] at h1
      exact Nat.lt_of_le_of_lt (by omega : _ ≤ 10000) (by decide)
    · intro b u e2
      rw [upd_ne (ne_of_none e2 nD)]
      exact s4 _ _ (sH _ _ e2)
    · rw [upd_same, List.take_succ, ho, hz]
      simp
  · rintro H ⟨sH, e⟩
    rw [← hl, List.take_length] at e
    exact hd H sH e
end
theorem all_none {α β : Type} (f : α → Option β) : ∀ xs : List α, (∀ x ∈ xs, f x = none) → (xs.map f).filterMap id = []
  | [], _ => rfl
  | x :: r, h => by
    rw [List.map_cons, List.filterMap_cons, h x (.head _)]
    exact all_none f r fun y m => h y (.tail _ m)
theorem not_none {α β : Type} (f : α → Option β) : ∀ xs : List α, (¬ ∀ x ∈ xs, f x = none) → (xs.map f).filterMap id ≠ []
  | [], h => absurd (fun _ m => nomatch m) h
  | x :: r, h => by
    rw [List.map_cons, List.filterMap_cons]
    cases e : f x with
    | some y => simp
    | none =>
      refine not_none f r fun h2 => h fun y m => ?_
      rcases List.mem_cons.mp m with rfl | m
      · exact e
      · exact h2 y m
end My
/-! A try with several clauses `except C as e`. -/
namespace My
open PySem PySem.Spec L2
open PyProof.Rows hiding St
abbrev ASuite := Addr → Value → Option Addr → TS
/-- what stands when an exception of a try's body has come down to its frame: `was` is the state without it -/
structure Down (X : Cx) (pins : List (Addr × Obj)) (a : Addr) (G : Heap) (cls : Value) (d : Option Addr) (σ : St) (H : Hp) (was now : Shared) : Prop where
  inv0 : Inv X pins σ H was
  kept : ∀ c ob, was.heap.get? c = some ob → c ∉ frs X.stack → G.get? c = some ob
  slots : was.heap.UpToSlots now.heap
  fresh : H a = none
  oseq : now.os = was.os
  gens : AllBare now.gens
  fly : HandSPX.FlyingZ G (X.env :: X.outer) a (Zc cls d) now.heap
section
variable {X : Cx} {pins : List (Addr × Obj)} {a : Addr} {G : Heap} {cls : Value} {d : Option Addr} {σ : St} {H : Hp} {was now : Shared}
theorem Down.inv (D : Down X pins a G cls d σ H was now) : Inv X pins σ H now := D.inv0.landed D.kept D.fly.1 D.slots D.oseq D.gens
theorem Down.move (D : Down X pins a G cls d σ H was now) {g : Heap} (f : HandSPX.FlyingZ G (X.env :: X.outer) a (Zc cls d) g) (u : now.heap.UpToSlots g) : Down X pins a G cls d σ H was { now with heap := g } :=
  ⟨D.inv0, D.kept, D.slots.trans u, D.fresh, D.oseq, D.gens, f⟩
theorem Down.obj (D : Down X pins a G cls d σ H was now) (hf : X.env.frame = some X.env.locals) : ∃ ob fs, now.heap.get? a = some ob ∧ Zc cls d ob ∧ ob.data = .fields fs ∧ a ≠ X.env.locals ∧ a ∉ X.fs := by
  obtain ⟨ob, fs, e1, e2, e3⟩ := D.fly.there
  have out : a ∉ frs (X.env :: X.outer) := by
    intro m
    obtain ⟨_, o2, e4, n4⟩ := D.fly.2.2.1.mem m
    rw [e1] at e4
    cases e4
    exact n4 _ e3
  refine ⟨ob, fs, e1, e2, e3, fun z => out ?_, fun m => ?_⟩
  · exact List.mem_filterMap.mpr ⟨X.env, .head _, by rw [hf, z]⟩
  · obtain ⟨en, m2, q⟩ := List.mem_filterMap.mp m
    exact out (List.mem_filterMap.mpr ⟨en, .tail _ m2, q⟩)
end
/-- the ends of a suite whose name in slot i goes -/
def endsGone (i : Nat) (D : Ends) : Ends := { nx := fun σ H => D.nx (σ.set i none) H, rt := D.rt, bk := fun σ H => D.bk (σ.set i none) H, ct := fun σ H => D.ct (σ.set i none) H }
/-- what the clauses wish of an exception, from the first one on -/
def wAsL (K : PySem.W.Frag) (Wout : WX) (D : Ends) : List (Value × Nat × ASuite) → WX
  | [] => Wout
  | (c, i, ts) :: rest => fun cls d σ H => ∃ b, PySem.W.exmOne K cls c = some b ∧ (b = true → ∀ a, H a = none → ts a cls d (endsGone i D) (σ.set i (some (.ref a))) H) ∧ (b = false → wAsL K Wout D rest cls d σ H)
inductive AsOk (X : Cx) : List ExceptHandler → List (Value × Nat × ASuite) → Prop
  | nil : AsOk X [] []
  | cons {x n : Str} {c : Value} {i : Nat} {ts : ASuite} {st : Stmt} {sts : List Stmt} {p1 p2 : Pos} {more : List ExceptHandler} {l : List (Value × Nat × ASuite)} (hi : X.N[i]? = some n) (hn : X.env.kindOf n = some .local) (hc : Names X x c)
      (hsu : ∀ (a : Addr) (oe : Obj) (cls : Value) (d : Option Addr) (pn : List (Addr × Obj)), Zc cls d oe → (∃ vs, oe.data = .fields vs) → PSs (X.suite a ((a, oe) :: pn)) (st :: sts) (ts a cls d)) (r : AsOk X more l) :
      AsOk X (.ExceptHandler (some (.Name x p1)) (some n) (st :: sts) p2 :: more) ((c, i, ts) :: l)
section
variable {X : Cx} {pins : List (Addr × Obj)} {a : Addr} {G : Heap} {cls : Value} {d : Option Addr} {Wout : WX} {D : Ends}
/-- no clause is left -/
theorem none_left {σ : St} {H : Hp} {was now : Shared} (hs : X.stack = X.env :: X.outer) (hf : X.env.frame = some X.env.locals) (tk : Takes X Wout) (L : Down X pins a G cls d σ H was now) (w : Wout cls d σ H) :
    wpAny (model X.prog X.w) X.A (handleBy (.ref a) X.env []) (SP X pins D) X.xe now := by
  refine wpAny_handleBy_nil ?_
  obtain ⟨_, _, _, ob, fs, T, oT, tf, e1, _, e3, e4, _⟩ := id L.fly
  unfold PySem.passOn
  have key : wpAny (model X.prog X.w) X.A (setFlight (.ref a) X.env.frame) (fun _ s4 => wpAny (model X.prog X.w) X.A (throw (.ref a) : Sem Flow) (SP X pins D) X.xe s4) X.xe now := by
    rw [hf]
    refine HandSPX.setFlight_upZ L.fly fun g hg ug => wpAny_throw (tk _ _ ⟨a, G, was, pins, σ, H, cls, d, rfl, L.inv0, L.kept, L.slots.trans ug, ?_, L.fresh, L.oseq, L.gens, w⟩)
    rw [hs]
    exact .inr (.inr hg)
  refine wpAny_bind (wpAny_field e1 e3 e4 ?_)
  rw [if_neg (show ¬ ((Value.ref T == Value.none) = true) from by simp)]
  first
    | exact wpAny_bind (wpAny_pure (wpAny_bind key))
    | exact wpAny_bind key
/-- the clauses, from the first one on -/
theorem clauses_run {was : Shared} {σ : St} {H : Hp} (hs : X.stack = X.env :: X.outer) (hf : X.env.frame = some X.env.locals) (hN : X.N.Nodup) (tk : Takes X Wout) :
    ∀ {hds : List ExceptHandler} {l : List (Value × Nat × ASuite)}, AsOk X hds l → ∀ {now : Shared}, Down X pins a G cls d σ H was now → wAsL X.K Wout D l cls d σ H →
      wpAny (model X.prog X.w) X.A (handleBy (.ref a) X.env hds) (SP X pins D) X.xe now := by
  intro hds l hk
  induction hk with
  | nil => exact fun L w => none_left hs hf tk L w
  | @cons x n c i ts st sts p1 p2 more rest hi hn hc hsu r ih =>
    intro now L w
    obtain ⟨b, hb, yes, no⟩ := w
    obtain ⟨ob, fs, o1, o2, o3, o4, o5⟩ := L.obj hf
    have S := L.inv.suite o1 o3 L.fresh o4 o5
    have sees : PySem.W.Looks (model X.prog X.w) now.heap (typeOf (.ref a)) cls := fun _ _ _ _ k q => wpAny_typeOf_ref (k _ _ o1) (by rw [o2.1]; exact q)
    have asks := PySem.W.exm_one (M := model X.prog X.w) L.inv.kIn sees hb
    refine wpAny_handleBy_cons (codeAny_handlers_test ?_) (by intro q; cases q)
    have name : ∀ {Q E : Value → Shared → Prop}, Q c now → wpAny (model X.prog X.w) (X.A.mark (some (.ref a))) (eval (.Name x p1) X.env) Q E now := by
      intro Q E q
      obtain ⟨g1, g2, g3 | ⟨g3, g4, g5⟩⟩ := hc
      · exact ld_glob (X := X.suite a ((a, ob) :: (X.pn ++ pins))) S g1 g3 q g2
      · exact ld_blt (X := X.suite a ((a, ob) :: (X.pn ++ pins))) S g1 g3 g4 q g5 g2
    refine name (asks.here ?_)
    cases b with
    | false => exact ih L (no rfl)
    | true =>
      refine codeAny_handlers_suite_as ?_
      refine HandSPX.lands_againZ L.fly fun g fg ug => ?_
      have L2 := L.move fg ug
      obtain ⟨ob2, fs2, q1, q2, q3, q4, q5⟩ := L2.obj hf
      have ok := L.inv0.ok
      refine store_ok (X := X.suite a ((a, ob2) :: (X.pn ++ pins))) (v := .ref a) (L2.inv.suite q1 q3 L.fresh q4 q5) hN hi (.inl hn) rfl (fun s5 I5 => ?_) (.inr hn)
      refine wpAny_mono ((hsu a ob2 cls d (X.pn ++ pins) q2 ⟨_, q3⟩).run [] s5 _ H (endsGone i D) I5 (yes rfl a L.fresh)) (fun fl s6 e6 => ?_) (fun _ _ z => False.elim z)
      have leave : ∀ {σ6 : St} {H6 : Hp} {R : Shared → Prop}, Inv (X.suite a ((a, ob2) :: (X.pn ++ pins))) [] σ6 H6 s6 → (∀ s7, Inv X pins (σ6.set i none) H6 s7 → R s7) →
          wpAny (model X.prog X.w) X.A (do bindName X.env n .none; unbindBehindTheSuite X.env n p2) (fun _ s7 => R s7) X.xe s6 := fun I6 q => gone_ok (I6.unsuite ok) hN hi hn q
      cases fl with
      | ret u =>
        obtain ⟨v, σ6, H6, I6, rv, e⟩ := e6
        exact leave I6 fun s7 I7 => ⟨_, _, _, I7, rv, e⟩
      | next =>
        obtain ⟨σ6, H6, I6, e⟩ := e6
        exact leave I6 fun s7 I7 => ⟨_, _, I7, e⟩
      | cont =>
        obtain ⟨σ6, H6, I6, e⟩ := e6
        exact leave I6 fun s7 I7 => ⟨_, _, I7, e⟩
      | brk =>
        obtain ⟨σ6, H6, I6, e⟩ := e6
        exact leave I6 fun s7 I7 => ⟨_, _, I7, e⟩
end
section
variable {X : Cx} {Wout : WX} {body : List Stmt} {h₀ : ExceptHandler} {hds : List ExceptHandler} {l : List (Value × Nat × ASuite)} {pos : Pos} {tb : WX → TS}
/-- try: body, several clauses `except C as e: suite` -/
theorem ps_try_asL (hs : X.stack = X.env :: X.outer) (hf : X.env.frame = some X.env.locals) (hN : X.N.Nodup) (tk : Takes X Wout)
    (hb : ∀ (W : WX) (pn : List (Addr × Obj)) (xe : Value → Shared → Prop), Takes (X.tr pn xe) W → PassesOwn (model X.prog X.w) X.A X.env xe → PSs (X.tr pn xe) body (tb W)) (hh : AsOk X (h₀ :: hds) l) :
    PS X (.Try body (h₀ :: hds) [] [] pos) (fun D σ H => tb (wAsL X.K Wout D l) D σ H) := by
  refine ⟨fun pins s σ H D I want => ?_⟩
  have hfr : X.A.frames = some (X.env :: X.outer) := by rw [I.ok.frames, hs]
  refine wpAny_Try_except (wpAny_mono ((hb (wAsL X.K Wout D l) (X.pn ++ pins) (fun e s₁ => wpAny (model X.prog X.w) X.A (noteFrame e X.env) (fun _ s₂ => wpAny (model X.prog X.w) X.A (setFlight e none) (fun _ s₃ =>
    wpAny (model X.prog X.w) X.A (handleBy e X.env (h₀ :: hds)) (SP X pins D) X.xe s₃) X.xe s₂) X.xe s₁) (fun u now up => ?_) PassesOwn.looking).run [] s σ H D (I.toTry _) want) (fun f s1 e1 => ?_) (fun e s1 he => he))
  · obtain ⟨a, G, was, pn2, σ2, H2, cls, d, rfl, J, kept, slots, sky, fresh, oseq, gens, w⟩ := up
    rw [show (X.tr (X.pn ++ pins) _).stack = X.env :: X.outer from hs] at sky
    refine Sky.land Zc.steady hfr hf sky fun g fg ug => ?_
    exact clauses_run hs hf hN tk hh ⟨J.ofTry I.ok, kept, slots.trans ug, fresh, oseq, gens, fg⟩ w
  · cases f with
    | ret u =>
      obtain ⟨v, σ2, H2, J, rv, q⟩ := e1
      exact ⟨v, σ2, H2, J.ofTry I.ok, rv, q⟩
    | next =>
      obtain ⟨σ2, H2, J, q⟩ := e1
      exact wpAny_execs_nil ⟨σ2, H2, J.ofTry I.ok, q⟩
    | cont =>
      obtain ⟨σ2, H2, J, q⟩ := e1
      exact ⟨σ2, H2, J.ofTry I.ok, q⟩
    | brk =>
      obtain ⟨σ2, H2, J, q⟩ := e1
      exact ⟨σ2, H2, J.ofTry I.ok, q⟩
end
end My
/-! repr of lists and tuples wants that no repr is under way: defs of which this is known (the law's own). -/
namespace My
open PySem PySem.Spec L2
open PyProof.Rows hiding St
/-- as FnOk, but only where no guard stands on the stack -/
structure FnOkG (P : Program) (w : World) (K : PySem.W.Frag) (mg : Str → Option Value) (base : Heap) (CX : CXT) (k : Nat) (f : Addr) (fd : FuncData) (ps : List Str) (sp : Sp) : Prop where
  len : ∀ vs H Q E, sp vs H Q E → vs.length = ps.length
  go : ∀ (A : Around) (outer : List Env) (s : Shared) (H : Hp) (args : Args) (us : List Value) (vs : List V) (Q : VK) (E : XK), A.guards = some [] → Room k A → Env0 P w K mg base A outer s H → BindsTo s fd args (ps.zip us) → Vals vs us → sp vs H Q E →
    codeAny (model P w) A (.call (.ref f) args) (CR CX outer P w H s Q E) s
theorem FnOkG.of {P : Program} {w : World} {K : PySem.W.Frag} {mg : Str → Option Value} {base : Heap} {CX : CXT} {k : Nat} {f : Addr} {fd : FuncData} {ps : List Str} {sp : Sp} (F : FnOk P w K mg base CX k f fd ps sp) : FnOkG P w K mg base CX k f fd ps sp :=
  ⟨F.len, fun A outer s H args us vs Q E _ => F.run A outer s H args us vs Q E⟩
theorem bodyG {CX : CXT} {P : Program} {w : World} {K : PySem.W.Frag} {mg : Str → Option Value} {base : Heap} {k : Nat} {f : Addr} {name qual : Str} {params : Arguments} {body : List Stmt} {scope : Scope} {dV kV doc pm cdv ct oc : Value} {an od : Option Addr}
    {osl : Array (Option Value)} {N ps : List Str} {sp : Sp} (here : K.lookup f = some ⟨oc, od, .func (PySem.W.fnOf name qual params body scope dV kV doc pm an cdv ct), osl⟩) (code : PySem.W.codeIn K cdv qual = true) (S : FnScope N ps scope)
    (len : ∀ vs H Q E, sp vs H Q E → vs.length = ps.length)
    (reads : ∀ (A : Around) (outer : List Env) (s : Shared) (H : Hp) (vs : List V) (Q : VK) (E : XK), A.guards = some [] → Room k (A.deeper (envOfC qual scope s.heap.objs.size f cdv)) → sp vs H Q E →
      ∃ t, PSs (cxOf CX P w K mg base N qual scope f cdv A outer s H E) body t ∧ t { nx := fun _ H' => Q .non H', rt := Q } (start N vs) H) :
    FnOkG P w K mg base CX (k + 1) f (PySem.W.fnOf name qual params body scope dV kV doc pm an cdv ct) ps sp := by
  refine ⟨len, fun A outer s H args us vs Q E none room st bound vals want => ?_⟩
  have many := len _ _ _ _ want
  have knows : K.In s.heap := st.mod.kin.keeps fun b o e => (st.bs b o e).1
  have kinds : ∀ y ∈ ps.zip us, scope.names.lookup y.1 = some .local ∨ (scope.names.lookup y.1 = some .cell ∧ ((cellsFrom (s.heap.objs.size + 1) scope.names []).lookup y.1).isSome = true) := by
    rintro ⟨n, v⟩ hy
    rcases S.par n (List.of_mem_zip hy).1 with q | q
    · exact .inl q
    · exact .inr ⟨q, PySem.W.cellsFrom_some _ _ _ (.inl q)⟩
  refine codeAny_call_function room.depth (knows _ _ here) rfl S.co S.gen rfl (PySem.W.codeRec_of knows code) (bound _ _ _ _ (wpAny_newFunctionEnv_cells S.kind kinds fun env he s1 x => ?_))
  subst he
  refine ⟨(st.mod.nolimit.keeps fun b o e => (st.bs b o e).1).keeps x.toInCall.keep, codeAny_func ?_⟩
  obtain ⟨t, ht, hq⟩ := reads A outer s H vs Q E none (room.deeper _) want
  have at0 : Inv (cxOf CX P w K mg base N qual scope f cdv A outer s H E) [] (start N vs) H s1 := inv_start S room.hd st many vals x
  refine wpAny_mono (ht.run [] s1 (start N vs) H _ at0 hq) (fun fl s2 e2 => ?_) fun _ _ e => e
  cases fl with
  | brk => exact False.elim e2.choose_spec.choose_spec.2
  | cont => exact False.elim e2.choose_spec.choose_spec.2
  | next =>
    obtain ⟨σ2, H2, J, q⟩ := e2
    exact ⟨.non, H2, J.os, J.bare, J.base, J.hok, rfl, q⟩
  | ret u =>
    obtain ⟨v, σ2, H2, J, rv, q⟩ := e2
    exact ⟨v, H2, J.os, J.bare, J.base, J.hok, rv, q⟩
section
variable {P : Program} {w : World} {K : PySem.W.Frag} {mg : Str → Option Value} {base : Heap}
/-- the rule for a def that lets nothing out -/
theorem okG {x qual : Str} {st : Stmt} {f : Addr} {fd : FuncData} {N ps : List Str} {k : Nat} {sp : Sp} (F : Fun K x qual st f fd) (S : FnScope N ps (defScope st)) (len : ∀ vs H Q E, sp vs H Q E → vs.length = ps.length)
    (reads : ∀ (cdv : Value) (A : Around) (outer : List Env) (s : Shared) (H : Hp) (vs : List V) (Q : VK) (E : XK), A.guards = some [] → Room k (A.deeper (envOfC qual (defScope st) s.heap.objs.size f cdv)) → sp vs H Q E →
      ∃ t, PSs (cxOf CX0 P w K mg base N qual (defScope st) f cdv A outer s H E).nox (defBody st) t ∧ t { nx := fun _ H' => Q .non H', rt := Q } (start N vs) H) : FnOkG P w K mg base CX0 (k + 1) f fd ps sp := by
  obtain ⟨_, _, _, _, _, _, cdv, _, _, rfl, here, code⟩ := F.ex
  refine bodyG here code S len fun A outer s H vs Q E none room want => ?_
  obtain ⟨t, h, q⟩ := reads cdv A outer s H vs Q E none room want
  exact ⟨t, h.nox, q⟩
end
section
variable {X : Cx} {CX : CXT} {k : Nat} {f : Addr} {fd : FuncData} {ps : List Str} {sp : Sp} {E : XK} {x : Str} {p pos : Pos} {e : Expr} {es : List Expr} {t : TA}
/-- f(..) of such a def, from one -/
theorem pe_callG (none : X.A.guards = some []) (F : FnOkG X.prog X.w X.K X.mg X.base CX k f fd ps sp) (room : Room k X.A) (hg : Gl X x) (hm : X.mg x = some (.ref f)) (hk : PySem.W.keepIn X.K (.ref f) = true) (hb : Binds X.K fd ps []) (out : Passes CX X E)
    (ha : PA X (e :: es) t) (hdb : (x == ("__debug__" : Str)) = false := by decide) (he : starEach (e :: es) X.env = (false, eval e X.env) :: starEach es X.env := by rfl) (hpl : (backTo pos (starEach es X.env)).any (·.1) = false := by rfl) :
    PE X (.Call (.Name x p) (e :: es) [] pos) (tCall sp [] E t) := by
  refine ⟨fun pn s σ H Q I want => wpAny_Call_Name_kw (ld_glob I hg hm ?_ hdb)⟩
  refine PySem.W.callWith_K (h₀ := X.base) I.ok.mod.kin hk (thn (ha.run pos pn s σ H _ I want) fun us s1 ⟨vs, H1, J, rv, q⟩ => ⟨J.kIn, ?_⟩) he hpl
  have q : sp vs H1 Q E := by rw [← List.append_nil vs]; exact q
  have bd := hb s1 us J.kIn (by rw [List.append_nil, ← rv.length]; exact F.len _ _ _ _ q)
  rw [List.append_nil] at bd
  refine wpAny_call (codeAny_mono (F.go X.A X.stack s1 H1 ⟨us, []⟩ us vs Q E none room J.env0 bd rv q) fun r s2 back => ?_)
  match r, back with
  | .error err, b => exact out pn σ H1 s1 err s2 J b
  | .ok (.ret u), b => exact J.after b
  | .ok .next, b => exact b.elim
  | .ok .brk, b => exact b.elim
  | .ok .cont, b => exact b.elim
end
/-! ### repr -/
/-- the text of a value by its data -/
def RepD (K : PySem.W.Frag) (v : V) (H : Hp) (d : PyData) : Prop := Dp K H v d ∧ d.showable = true ∧ d.hasDict = false ∧ d.depth ≤ 8 ∧ d.shown.length ≤ 1000 ∧ ∀ i, d = .int i → i.natAbs.log2 < 1920
def tRepr (K : PySem.W.Frag) (t : TE) : TE := fun σ H Q => t σ H fun v H1 => ∃ d, RepD K v H1 d ∧ Q (.str d.shown) H1
section
variable {X : Cx} {e : Expr} {t : TE} {p pos : Pos}
theorem call_repr (none : X.A.guards = some []) (hu : X.A.units + 64 < cLine) {pins : List (Addr × Obj)} {s : Shared} {σ : St} {H : Hp} {Q : VK} {v : V} {u : Value} (I : Inv X pins σ H s) (rv : RelV v u) {d : PyData} (R : RepD X.K v H d) (q : Q (.str d.shown) H) :
    wpAny (model X.prog X.w) X.A (call (.builtin "repr") [u]) (EP X pins σ Q) X.xe s := by
  obtain ⟨hd, hs, nodict, deep, hz, hi⟩ := R
  have big : d.shown.length ≤ sizeLine := Nat.le_trans hz (by decide)
  have fin : ∀ (h' : Heap) (tk : Nat) (t2 : Tok), (∀ b o, s.heap.get? b = some o → h'.get? b = some o) → EP X pins σ Q (.str d.shown t2) { s with heap := h', toks := tk } := fun h' tk t2 k => ⟨.str d.shown, H, I.kept k, ⟨_, rfl⟩, q⟩
  have deep9 : X.A.units + (d.depth + 1) < cLine := by omega
  have hd0 := hd
  cases hd with
  | non =>
    obtain rfl : u = Value.none := rv
    exact PySem.P.repr_of_none (fin _ _ _ fun _ _ e => e)
  | bl b =>
    obtain rfl : u = Value.bool b := rv
    exact PySem.P.repr_of_bool (fin _ _ _ fun _ _ e => e)
  | int i =>
    obtain ⟨t1, rfl⟩ := rv
    exact PySem.P.repr_of_int (hi i rfl) (fin _ _ _ fun _ _ e => e)
  | str x =>
    obtain ⟨t1, rfl⟩ := rv
    exact PySem.P.repr_of_str (fin _ _ _ fun _ _ e => e) big
  | lst a b =>
    obtain ⟨as, R⟩ := Dp.reads I _ _ _ hd0 rv
    obtain rfl : u = Value.ref _ := rv
    exact repr_of_reads' R hs (fun z => by rw [nodict] at z; cases z) none deep9 (fun _ _ e => e) (fun h' u tk k => fin h' tk u k) big
  | tup a b =>
    obtain ⟨as, R⟩ := Dp.reads I _ _ _ hd0 rv
    obtain rfl : u = Value.ref _ := rv
    exact repr_of_reads' R hs (fun z => by rw [nodict] at z; cases z) none deep9 (fun _ _ e => e) (fun h' u tk k => fin h' tk u k) big
/-- repr as a built-in that is called -/
def rRepr (K : PySem.W.Frag) : List V → Hp → VK → Prop := fun xs H Q => ∃ v d, xs = [v] ∧ RepD K v H d ∧ Q (.str d.shown) H
theorem call_reprR (none : X.A.guards = some []) (hu : X.A.units + 64 < cLine) : CallR X (.builtin "repr") (rRepr X.K) := by
  intro pins s σ H xs us Q I rv want
  obtain ⟨v, d, rfl, R, q⟩ := want
  cases rv with
  | cons r0 r1 =>
    cases r1
    exact call_repr none hu I r0 R q
end
/-! ### the head of such a law -/
/-- in the heap s₁ nothing is tracked but the script at a and the tables of code objects -/
structure Bare0 (K : PySem.W.Frag) (cs : List (Addr × Addr)) (a : Addr) (vs : List Value) (ns : List Int) (s₁ : Shared) (H : Hp) : Prop where
  tabs : ∀ p ∈ cs, H p.2 = some (.tbl #[])
  only : ∀ b u, H b = some u → (∃ p ∈ cs, b = p.2 ∧ u = .tbl #[]) ∨ (b = a ∧ K.lookup a = none ∧ u = .frz { cls := .type "list", data := .seq vs.toArray } (.lst (ns.map V.int)))
  scr : SqL K H a (ns.map V.int)
section
variable {K : PySem.W.Frag} {cs : List (Addr × Addr)} {a : Addr} {vs : List Value} {ns : List Int} {s₁ : Shared} {H : Hp}
theorem bare0_is (KX : K.In s₁.heap) (hT : ∀ p ∈ cs, s₁.heap.get? p.2 = some { cls := .none, data := .fields #[] }) (ha : s₁.heap.get? a = some { cls := .type "list", data := .seq vs.toArray }) (hi : IntsAre vs ns) (hl : ns.length ≤ sizeLine) :
    ∃ H, Bare0 K cs a vs ns s₁ H := by
  have apart : ∀ p ∈ cs, p.2 ≠ a := fun p hp z => by
    have t := hT p hp
    rw [z, ha] at t
    cases t
  by_cases known : K.lookup a = none
  · refine ⟨fun b => if b = a then some (.frz { cls := .type "list", data := .seq vs.toArray } (.lst (ns.map V.int))) else if b ∈ cs.map (·.2) then some (.tbl #[]) else none, fun p hp => ?_, fun b u e => ?_, .inl (.inr ⟨_, if_pos rfl⟩)⟩
    · exact (if_neg (apart p hp)).trans (if_pos (List.mem_map.mpr ⟨p, hp, rfl⟩))
    · by_cases z : b = a
      · have e2 := (if_pos z).symm.trans e
        cases e2
        exact .inr ⟨z, known, rfl⟩
      · have e2 := (if_neg z).symm.trans e
        by_cases m : b ∈ cs.map (·.2)
        · obtain ⟨p, hp, q⟩ := List.mem_map.mp m
          have e3 := (if_pos m).symm.trans e2
          cases e3
          exact .inl ⟨p, hp, q.symm, rfl⟩
        · have e3 := (if_neg m).symm.trans e2
          cases e3
  · obtain ⟨o, known⟩ := Option.ne_none_iff_exists'.mp known
    have e := KX a o known
    rw [ha] at e
    cases e
    refine ⟨fun b => if b ∈ cs.map (·.2) then some (.tbl #[]) else none, fun p hp => if_pos (List.mem_map.mpr ⟨p, hp, rfl⟩), fun b u e => ?_, .inr ⟨_, vs.toArray, _, known, rfl, rfl, rfl, ?_, ?_⟩⟩
    · by_cases m : b ∈ cs.map (·.2)
      · obtain ⟨p, hp, q⟩ := List.mem_map.mp m
        have e3 := (if_pos m).symm.trans e
        cases e3
        exact .inl ⟨p, hp, q.symm, rfl⟩
      · have e3 := (if_neg m).symm.trans e
        cases e3
    · rw [List.size_toArray, hi.length]
      exact hl
    · have := vals_ints hi
      simpa using this
variable (B : Bare0 K cs a vs ns s₁ H) (hT : ∀ p ∈ cs, s₁.heap.get? p.2 = some { cls := .none, data := .fields #[] }) (nT : ∀ p ∈ cs, K.lookup p.2 = none) (ha : s₁.heap.get? a = some { cls := .type "list", data := .seq vs.toArray })
include B hT ha
theorem Bare0.hok {P : Program} {w : World} (hi : IntsAre vs ns) (hl : ns.length ≤ sizeLine) : HOk P w H s₁.heap := by
  intro b u e
  rcases B.only b u e with ⟨p, hp, rfl, rfl⟩ | ⟨rfl, _, rfl⟩
  · exact hT p hp
  · exact ⟨ha, by rw [List.length_map]; exact hl, vs, _, vals_ints hi, ha⟩
/-- what is neither a list nor an empty table is not tracked -/
theorem Bare0.unseen {b : Addr} {o : Obj} (e : s₁.heap.get? b = some o) (h1 : ∀ us n, o.data ≠ .seq us n) (h2 : o.data ≠ .fields #[]) : H b = none := by
  cases q : H b with
  | none => rfl
  | some u =>
    rcases B.only b u q with ⟨p, hp, rfl, _⟩ | ⟨rfl, _, _⟩
    · rw [hT p hp] at e
      cases e
      exact absurd rfl h2
    · rw [ha] at e
      cases e
      exact absurd rfl (h1 _ _)
include nT
theorem Bare0.known (KX : K.In s₁.heap) : K.In (hidT s₁.heap H) := by
  intro b o e
  refine hidT_get (KX b o e) ?_
  cases q : H b with
  | none => rfl
  | some u =>
    rcases B.only b u q with ⟨p, hp, rfl, _⟩ | ⟨rfl, k, _⟩
    · rw [nT p hp] at e
      cases e
    · rw [k] at e
      cases e
end
theorem tab_at {cs : List (Addr × Addr)} {mg : Str → Option Value} {s₁ : Shared} {h : Heap} {p : Addr × Addr} (hp : p ∈ cs) (hns : s₁.heap.Ns mainGlobals mg) (hT : ∀ p ∈ cs, s₁.heap.get? p.2 = some { cls := .none, data := .fields #[] }) (C : ∀ p ∈ cs, PySem.W.CodeHd s₁.heap p.1 p.2)
    (hbm : ∃ (bm : Addr) (ob : Obj), mg "__builtins__" = some (.ref bm) ∧ bm ≠ builtinsNs ∧ s₁.heap.get? bm = some ob ∧ ob.cls = .type "module" ∧ ob.dict = some builtinsNs ∧ ob.data = .plain)
    (keep : ∀ b o, s₁.heap.get? b = some o → (∀ us n, o.data ≠ .seq us n) → o.data ≠ .fields #[] → h.get? b = some o) : LamX.TabB h mg p.1 p.2 := by
  have tp := hT p hp
  obtain ⟨oc, us, file, tf, flags, tg, inF, text, tt, c1, c2, c3, c4, c5, c6, c7, c8, c9, c10⟩ := C p hp
  obtain ⟨bm, ob, b1, b2, b3, b4, b5, b6⟩ := hbm
  obtain ⟨og, es, ep, g1, g2, _⟩ := hns
  refine ⟨⟨oc, us, file, tf, flags, tg, inF, text, tt, keep _ _ c1 (fun _ _ z => by rw [c3] at z; cases z) fun z => ?_, c2, c3, c4, c5, c6, c7, c8, c9, c10⟩, ⟨bm, ob, b1, b2, fun z => ?_, fun z => ?_, keep _ _ b3 (fun _ _ z => by rw [b6] at z; cases z) (fun z => by rw [b6] at z; cases z), b4, b5, b6⟩, fun z => ?_⟩
  · rw [c3] at z
    cases z
    simp at c4
  · rw [z, g1] at b3
    cases b3
    rw [g2] at b6
    cases b6
  · rw [z, tp] at b3
    cases b3
    cases b6
  · rw [z, tp] at g1
    cases g1
    cases g2
section
variable {P : Program} {w : World} {K : PySem.W.Frag} {mg mb : Str → Option Value} {CX : CXT} {k : Nat} {fa a : Addr} {cs : List (Addr × Addr)} {fd : FuncData} {x : Str} {sp : Sp} {s₁ : Shared} {vs : List Value} {ns : List Int}
/-- the law is called on its script -/
theorem enterG (KX : K.In s₁.heap) (hns : s₁.heap.Ns mainGlobals mg) (hb : s₁.heap.Ns builtinsNs mb) (hbb : ∀ x : Str, x ≠ "__name__" → mb x = bootBuiltins x) (hlim : s₁.heap.NoLimit) (hg : s₁.gens = #[])
    (hT : ∀ p ∈ cs, s₁.heap.get? p.2 = some { cls := .none, data := .fields #[] }) (nT : ∀ p ∈ cs, K.lookup p.2 = none) (C : ∀ p ∈ cs, PySem.W.CodeHd s₁.heap p.1 p.2)
    (hbm : ∃ (bm : Addr) (ob : Obj), mg "__builtins__" = some (.ref bm) ∧ bm ≠ builtinsNs ∧ s₁.heap.get? bm = some ob ∧ ob.cls = .type "module" ∧ ob.dict = some builtinsNs ∧ ob.data = .plain)
    (ha : s₁.heap.get? a = some { cls := .type "list", data := .seq vs.toArray }) (hi : IntsAre vs ns) (hl : ns.length ≤ sizeLine) (room : Room k callerA)
    (F : ∀ base : Heap, K.In base → base.Ns mainGlobals mg → (∀ p ∈ cs, LamX.TabB base mg p.1 p.2) → FnOkG P w K mg base CX k fa fd [x] sp) (bind : ∀ (s : Shared) (u : Value), BindsTo s fd ⟨[u], []⟩ [(x, u)])
    (want : ∀ H : Hp, (∀ p ∈ cs, H p.2 = some (.tbl #[])) → SqL K H a (ns.map V.int) → sp [.ref a] H (fun v _ => v = .bl true) fun _ _ _ => False) (quiet : ∀ H e s', CX [] H s₁ (fun _ _ _ => False) e s' → False) :
    codeAny (model P w) callerA (.call (.ref fa) ⟨[.ref a], []⟩) (fun r s' => r = .ok (.ret (.bool true)) ∧ OldK s₁.heap s'.heap ∧ s'.os = s₁.os ∧ AllBare s'.gens) s₁ := by
  obtain ⟨H, B⟩ := bare0_is (K := K) (cs := cs) (ns := ns) KX hT ha hi hl
  have keep : ∀ b o, s₁.heap.get? b = some o → (∀ us n, o.data ≠ .seq us n) → o.data ≠ .fields #[] → (hidT s₁.heap H).get? b = some o := fun b o e h1 h2 => hidT_get e (B.unseen hT ha e h1 h2)
  have names : ∀ {b : Addr} {m : Str → Option Value}, s₁.heap.Ns b m → (hidT s₁.heap H).Ns b m := by
    rintro b m ⟨o, es, ep, e, d, r⟩
    exact ⟨o, es, ep, keep b o e (fun _ _ z => by rw [d] at z; cases z) (fun z => by rw [d] at z; cases z), d, r⟩
  have KH := B.known hT nT ha KX
  obtain ⟨mc, l1, l2⟩ := hlim
  have st : Env0 P w K mg (hidT s₁.heap H) callerA [] s₁ H := ⟨rfl, ⟨KH, names hns, ⟨mb, names hb, hbb⟩, ⟨mc, names l1, l2⟩⟩, fun b o e => of_hidT e, Nat.le_of_eq (hidT_size _ _), trivial, fun b m => absurd (show b ∈ ([] : List Addr) from m) (by simp), B.hok hT ha hi hl, .of_eq hg⟩
  refine codeAny_mono ((F _ KH (names hns) fun p hp => tab_at hp hns hT C hbm keep).go callerA [] s₁ H ⟨[.ref a], []⟩ [.ref a] [.ref a] _ _ rfl room st (bind s₁ (.ref a)) (.cons rfl .nil) (want H B.tabs B.scr)) fun r s2 e => ?_
  match r, e with
  | .error e, h => exact (quiet H e s2 h).elim
  | .ok .next, h => exact h.elim
  | .ok .brk, h => exact h.elim
  | .ok .cont, h => exact h.elim
  | .ok (.ret u), ⟨v, H2, oseq, gens, un, hok2, rv, q⟩ =>
    obtain rfl : v = .bl true := q
    obtain rfl : u = Value.bool true := rv
    have same : ∀ b o, s₁.heap.get? b = some o → (∀ p ∈ cs, b ≠ p.2) → s2.heap.get? b = some o := by
      intro b o e out
      cases q : H b with
      | none => exact un.keep b o e q (by intro z; exact absurd (show b ∈ ([] : List Addr) from z) (by simp)) (by simp)
      | some t =>
        rcases B.only b t q with ⟨p, hp, eb, _⟩ | ⟨eb, _, et⟩
        · exact absurd eb (out p hp)
        · rw [et] at q
          obtain ⟨m1, _⟩ := hok2 b _ (un.frzs b _ _ q)
          rw [eb] at e
          rw [ha] at e
          cases e
          exact m1
    have more : ∀ p ∈ cs, ∃ us : Array Value, s2.heap.get? p.2 = some { cls := .none, data := .fields us } := by
      intro p hp
      obtain ⟨us, z⟩ := un.tbls p.2 #[] (B.tabs p hp)
      exact ⟨_, hok2 p.2 _ z⟩
    refine ⟨rfl, ⟨fun b o e => ?_, fun b o e => ?_⟩, oseq, gens⟩
    · by_cases m : ∃ p ∈ cs, b = p.2
      · obtain ⟨p, hp, rfl⟩ := m
        obtain ⟨us, hm⟩ := more p hp
        rw [hT p hp] at e
        cases e
        exact .inr (.inl ⟨((C p hp).tab (hT p hp)).isCodeTable, rfl, #[], us, rfl, by rw [Array.empty_append]; exact hm⟩)
      · exact .inl (same b o e fun p hp z => m ⟨p, hp, z⟩)
    · by_cases m : ∃ p ∈ cs, b = p.2
      · obtain ⟨p, hp, rfl⟩ := m
        obtain ⟨us, hm⟩ := more p hp
        exact ⟨_, hm⟩
      · exact ⟨o, same b o e fun p hp z => m ⟨p, hp, z⟩⟩
end
/-- what is known of the law at the head's heap h -/
def LawG (l : PySem.W.OpenLaw) (w : World) (K : PySem.W.Frag) (CX : CXT) (k n : Nat) (x : Str) (mg : Str → Option Value) (fa : Addr) (h : Heap) : Prop :=
  ∃ (fd : FuncData) (cs : List (Addr × Addr)) (sp : Sp), ((∀ p ∈ cs, h.get? p.2 = some { cls := .none, data := .fields #[] }) ∧ (∀ p ∈ cs, K.lookup p.2 = none) ∧ ∀ p ∈ cs, PySem.W.CodeHd h p.1 p.2) ∧ (∀ (s : Shared) (u : Value), BindsTo s fd ⟨[u], []⟩ [(x, u)]) ∧
    (∀ (H : Hp) (a : Addr) (ns : List Int), ns.length ≤ n → (∀ p ∈ cs, H p.2 = some (.tbl #[])) → SqL K H a (ns.map V.int) → sp [.ref a] H (fun v _ => v = .bl true) fun _ _ _ => False) ∧
    ∀ base : Heap, K.In base → base.Ns mainGlobals mg → (∀ p ∈ cs, LamX.TabB base mg p.1 p.2) → FnOkG l.prog w K mg base CX k fa fd [x] sp
theorem walkG {l : PySem.W.OpenLaw} {n k : Nat} {q : Program} {loose : List Str} {XP : (Str → Option Value) → Heap → Prop} {YP : World → Heap → Prop} {d : DefRec} {K : Params → PySem.W.Frag} {CX : World → CXT} {x : Str}
    (hn : l.most = some n) (hn2 : n ≤ sizeLine) (hdf : d.params.defaults = []) (room : Room k callerA) (hY : ∀ (w : World) (h : Heap), YP w h → (K w.params).In h)
    (F : ∀ (w : World) (mg : Str → Option Value) (fa : Addr) (h : Heap), YP w h → (K w.params).In h → h.Ns mainGlobals mg → mg d.name = some (.ref fa) → LawG l w (K w.params) (CX w) k n x mg fa h)
    (quiet : ∀ (w : World) (H : Hp) (s : Shared) (e : Value) (s' : Shared), CX w [] H s (fun _ _ _ => False) e s' → False) :
    PySem.W.WalkO q loose XP YP l.row.toRowW d [] (fun f vs => PySem.call f vs) := by
  refine Att.attach_callB hn hdf fun w s₀ s₁ mg mb fa o pm cd doc a vs ns G Y ho hd hcd hmg hobj hints hlen _ hg => ?_
  obtain ⟨fd, cs, sp, ⟨c1, c2, c3⟩, hb, hsp, hF⟩ := F w mg fa _ Y (hY w _ Y) G.T.g hmg
  exact enterG (hY w _ Y) G.T.g G.T.b G.T.builtins G.T.nolimit hg c1 c2 c3 G.T.bmain hobj hints (Nat.le_trans hlen hn2) room hF hb (fun H hH hS => hsp H a ns hlen hH hS) fun H e s' => quiet w H s₁ e s'
end My
/-! C(..) in a try's body: what __init__ lets out is wished for at the caller's slots. -/
namespace My
open PySem PySem.Spec L2
open PyProof.Rows hiding St
section
variable {X : Cx} {CX : CXT} {k : Nat} {f C : Addr} {fd : FuncData} {ps : List Str} {sp : Sp} {dvs : List V} {ds : List Value} {E : L2.St → XK} {x : Str} {p pos : Pos} {e : Expr} {es : List Expr} {t : TA}
def tMakeS (C : Addr) (sp : Sp) (dvs : List V) (E : L2.St → XK) (t : TA) : TE := fun σ H Q => t σ H fun vs H1 => ∀ x dx, H1 x = none → H1 dx = none → dx ≠ x →
  sp (.ref x :: (vs ++ dvs)) (upd (upd H1 dx (.own x)) x (.ins C dx [])) (fun v H2 => v = .non ∧ Q (.ref x) H2) (E σ)
theorem pe_makeS (M : Mk X.K C f) (F : FnOk X.prog X.w X.K X.mg X.base CX k f fd ps sp) (room : Room (k + 1) X.A) (hg : Gl X x) (hm : X.mg x = some (.ref C)) (hb : Binds X.K fd ps ds) (hd : Vals dvs ds) (out : ∀ σ, PassesAt CX X σ (E σ))
    (ha : PA X (e :: es) t) (hdb : (x == ("__debug__" : Str)) = false := by decide) (he : starEach (e :: es) X.env = (false, eval e X.env) :: starEach es X.env := by rfl) (hpl : (backTo pos (starEach es X.env)).any (·.1) = false := by rfl) :
    PE X (.Call (.Name x p) (e :: es) [] pos) (tMakeS C sp dvs E t) := by
  refine ⟨fun pn s σ H Q I want => wpAny_Call_Name_kw (ld_glob I hg hm ?_ hdb)⟩
  refine PySem.W.callWith_K (h₀ := X.base) I.ok.mod.kin M.kp (thn (ha.run pos pn s σ H _ I want) fun us s1 ⟨vs, H1, J, rv, q⟩ => ⟨J.kIn, ?_⟩) he hpl
  have new := q (s1.heap.objs.size + 1) s1.heap.objs.size (J.hok.fresh (Nat.le_succ _)) (J.hok.fresh (Nat.le_refl _)) (Nat.ne_of_lt (Nat.lt_succ_self _))
  have J2 := Inv.made (C := C) J
  have rv2 : Vals (V.ref (s1.heap.objs.size + 1) :: (vs ++ dvs)) (Value.ref (s1.heap.objs.size + 1) :: (us ++ ds)) := .cons rfl (rv.append hd)
  have many : (Value.ref (s1.heap.objs.size + 1) :: us ++ ds).length = ps.length := (F.len _ _ _ _ new).symm.trans rv2.length |>.symm
  refine wpAny_call (make_map (f := f) J.kIn M.makes M.init (beq_iff_eq.mp M.fn) (codeAny_mono (F.run _ X.stack _ _ ⟨Value.ref (s1.heap.objs.size + 1) :: us, []⟩ (Value.ref (s1.heap.objs.size + 1) :: (us ++ ds)) _ _ (E σ) (room.make C us [])
    (J2.env0.make C us []) (hb _ (Value.ref (s1.heap.objs.size + 1) :: us) J2.kIn many) rv2 new) fun r s2 back => ?_))
  match r, back with
  | .error err, b => exact out σ pn _ _ err s2 J2 b
  | .ok .next, b => exact b.elim
  | .ok .brk, b => exact b.elim
  | .ok .cont, b => exact b.elim
  | .ok (.ret u), b =>
    obtain ⟨v, H3, J3, rw3, ev, q3⟩ := J2.after b
    subst ev
    exact ⟨rw3, .ref (s1.heap.objs.size + 1), H3, J3, rfl, q3⟩
end
end My
/-! A tuple of some items, no times or once. -/
namespace My
open PySem PySem.Spec L2
open PyProof.Rows hiding St
section
variable {l : Addr} {its : Array Value} {n : Nat} {dd : Option Addr} {sl : Array (Option Value)} {u : Tok}
theorem tup_once : Meets (Builtin.«tuple.__mul__» ⟨[.ref l, .int 1 u], []⟩) (fun _ R s => s.heap.get? l = some { cls := .type "tuple", dict := dd, data := .seq its n, slots := sl } ∧ R (.ok (.ret (Value.ref l))) s) :=
  .of_wp fun prog w A R s h => by
    obtain ⟨hp, g, d, tk, os⟩ := s
    obtain ⟨hl, h⟩ := h
    have one := AutoSeq1.idx_int
    wp_walk using wpAny_loadPart' hl
    repeat (first
      | (refine wpAny_ite_false (by decide) ?_; wp_walk using wpAny_loadPart' hl)
      | (refine wpAny_ite_true (by cases its.isEmpty <;> decide) ?_; wp_walk using wpAny_loadPart' hl))
    exact ⟨_, rfl, h⟩
theorem tup_never (full : its.isEmpty = false) : Meets (Builtin.«tuple.__mul__» ⟨[.ref l, .int 0 u], []⟩) (fun _ R s => s.heap.get? l = some { cls := .type "tuple", dict := dd, data := .seq its n, slots := sl } ∧
      R (.ok (.ret (Value.ref s.heap.objs.size))) { s with heap := s.heap.push { cls := Value.type "tuple", data := Data.seq #[] }, toks := s.toks }) :=
  .of_wp fun prog w A R s h => by
    obtain ⟨hp, g, d, tk, os⟩ := s
    obtain ⟨hl, h⟩ := h
    have one := AutoSeq1.idx_int
    wp_walk using wpAny_loadPart' hl
    repeat (first
      | (refine wpAny_ite_false (by decide) ?_; wp_walk using wpAny_loadPart' hl)
      | (refine wpAny_ite_false (by rw [full]; decide) ?_; wp_walk using wpAny_loadPart' hl)
      | (refine wpAny_ite_true (by decide) ?_; wp_walk using wpAny_loadPart' hl)
      | (refine wpAny_ite_true (by rw [full]; decide) ?_; wp_walk using wpAny_loadPart' hl))
    exact ⟨_, rfl, h⟩
end
/-- a tuple that is not empty times a few -/
def rRepT2 (K : PySem.W.Frag) : R2 := fun x y H Q => ∃ l xs, ∃ k : Nat, x = .ref l ∧ y = .int (k : Int) ∧ H l = some (.tup xs) ∧ xs ≠ [] ∧ k ≤ 1000 ∧ xs.length ≤ 1000 ∧ ∀ p H', Same H H' → H' p = some (.tup (List.replicate k xs).flatten) → Q (.ref p) H'
section
variable {X : Cx}
theorem op_repT2 : OpR X (binaryOp .Mult) (rRepT2 X.K) := by
  intro pins s σ H x y v u Q I rx ry h
  obtain ⟨l, xs, k, rfl, rfl, hl, ne, kk, hz, q⟩ := h
  match k with
  | k + 2 =>
    refine op_repT pins s σ H _ _ v u Q I rx ry ⟨l, ((k + 2 : Nat) : Int), xs, rfl, rfl, SqT.of hl, ne, by omega, by omega, hz, fun p np => q p _ ?_ ?_⟩
    · intro b o e
      rw [upd_ne (ne_of_none e np)]
      exact e
    · rw [upd_same, Int.toNat_natCast]
  | 1 =>
    cases rx
    obtain ⟨t, rfl⟩ := ry
    obtain ⟨its, r, ⟨⟨cls, dd, data, sl⟩, ho, hc, n, hd⟩, hs⟩ := I.tuple (SqT.of (K := X.K) hl)
    simp only at hc hd
    subst hc hd
    refine wpAny_binaryOp_repeat_ref (T := "tuple") (U := "int") (by decide) ⟨_, ho, rfl⟩ (fun s' => typeIs_int s' 1 t) noFill_tuple_mul F.fills_int_mul F.slot_int_rmul repeat_tuple F.slot_int_index.lookup
      (call_meets F.slot_int_rmul (typeIs_int s 1 t) F.entry_int_rmul (F.args_int_rmul_2 _ _) (int_rmul_tuple 1 t l its.toArray n dd sl)
        ⟨ho, rfl, ⟨_, ho, rfl⟩, call_meets F.slot_tuple_mul ⟨_, ho, rfl⟩ F.entry_tuple_mul (F.args_tuple_mul_2 _ _) tup_once ⟨ho, ?_⟩⟩)
    exact ⟨.ref l, H, I, rfl, q l H (fun _ _ e => e) (by simpa using hl)⟩
  | 0 =>
    cases rx
    obtain ⟨t, rfl⟩ := ry
    obtain ⟨its, r, ⟨⟨cls, dd, data, sl⟩, ho, hc, n, hd⟩, hs⟩ := I.tuple (SqT.of (K := X.K) hl)
    simp only at hc hd
    subst hc hd
    have full : its.toArray.isEmpty = false := by
      cases its with
      | nil =>
        have := r.length
        exact absurd (List.eq_nil_of_length_eq_zero this) ne
      | cons a b => rfl
    refine wpAny_binaryOp_repeat_ref (T := "tuple") (U := "int") (by decide) ⟨_, ho, rfl⟩ (fun s' => typeIs_int s' 0 t) noFill_tuple_mul F.fills_int_mul F.slot_int_rmul repeat_tuple F.slot_int_index.lookup
      (call_meets F.slot_int_rmul (typeIs_int s 0 t) F.entry_int_rmul (F.args_int_rmul_2 _ _) (int_rmul_tuple 0 t l its.toArray n dd sl)
        ⟨ho, rfl, ⟨_, ho, rfl⟩, call_meets F.slot_tuple_mul ⟨_, ho, rfl⟩ F.entry_tuple_mul (F.args_tuple_mul_2 _ _) (tup_never full) ⟨ho, ?_⟩⟩)
    have np : H s.heap.objs.size = none := I.hok.fresh (Nat.le_refl _)
    refine ⟨.ref s.heap.objs.size, upd H s.heap.objs.size (.tup []), I.laid (t' := s.toks) (o := .tup []) (fun b ob q => Heap.get?_push_of_some _ q) (Nat.le_refl _) ⟨by decide, [], .nil, IsTup.new _ _⟩, rfl, q _ _ ?_ ?_⟩
    · intro b o e
      rw [upd_ne (ne_of_none e np)]
      exact e
    · rw [upd_same]
      rfl
end
end My
/-! What a name holds is walked, be it a list or a tuple. -/
namespace My
open PySem PySem.Spec L2
open PyProof.Rows hiding St
def iOr (a b : TI) : TI := fun σ H R => a σ H R ∨ b σ H R
theorem pi_or {X : Cx} {tg it : Expr} {a b : TI} (h : PI X tg it a) (k : PI X tg it b) : PI X tg it (iOr a b) :=
  ⟨fun pins s σ H R I w => w.elim (h.run pins s σ H R I) (k.run pins s σ H R I)⟩
/-- a name that holds a list or a tuple -/
theorem pi_seqv {X : Cx} {tg l : Expr} {te : TE} (h : PE X l te) : PI X tg l (iOr (iList X.K te) (iTup X.K te)) := pi_or (pi_list h) (pi_tup h)
/-- what its walk asks -/
theorem seqv {K : PySem.W.Frag} {σ : L2.St} {H : Hp} {i : Nat} {a : Addr} {xs : List V} {R : It → Hp → Prop} (hv : σ[i]? = some (some (.ref a))) (hS : H a = some (.lst xs) ∨ H a = some (.tup xs))
    (h : ∀ (J : It) (G : Hp → Prop), Walk J xs.length G (YAt xs) → (∀ H', Same H H' → G H') → R J H) : iOr (iList K (tVar i)) (iTup K (tVar i)) σ H R := by
  rcases hS with e | e
  · exact .inl ⟨_, hv, a, rfl, ⟨xs, SqL.of e⟩, h _ _ walk_list fun H' s => SqL.of (s _ _ e)⟩
  · exact .inr ⟨_, hv, a, rfl, ⟨xs, SqT.of e⟩, h _ _ walk_tup fun H' s => SqT.of (s _ _ e)⟩
section
variable {J : It} {G : Hp → Prop} {xs : List V} {D : Addr} {i : Nat} {vs : List Nat} {te : TE} {σ : L2.St} {H1 : Hp} {Qd : Hp → Prop}
/-- a comprehension without a test over such a walk -/
theorem each_it (w : Walk J xs.length G (YAt xs)) (I : Nat → List V → Hp → Prop) (h0 : I 0 [] (upd H1 D (.lst []))) (hG : ∀ j ys H, I j ys H → G H) (sz : xs.length ≤ 1000) (hw : ∀ x, wipe ((wipe σ vs).set i (some x)) vs = wipe σ vs)
    (hs : ∀ j x ys H, xs[j]? = some x → I j ys H → H D = some (.lst ys) → ∀ R : VK, (∀ y H4, H4 D = some (.lst ys) → I (j + 1) (ys ++ [y]) (upd H4 D (.lst (ys ++ [y]))) → R y H4) → te ((wipe σ vs).set i (some x)) H R)
    (hd : ∀ H ys, I xs.length ys H → H D = some (.lst ys) → ys.length = xs.length → Qd H) :
    ∃ W : Nat → Nat → Hp → Prop, (∃ m, W 0 m (upd H1 D (.lst []))) ∧ ∀ i0 m H, W i0 m H →
      (J.stop i0 H ∧ Qd H) ∨ (J.go i0 H ∧ ∃ Nx : Hp → Prop, (∀ H', Nx H' → ∃ m', m' < m ∧ W (i0 + 1) m' H') ∧ ∀ x H', J.yld i0 H x H' → gName i x (wipe σ vs) H' fun σ2 H2 => wipe σ2 vs = wipe σ vs ∧ tYes σ2 H2 fun b H3 =>
        if b = true then te σ2 H3 fun y H4 => ∃ acc, H4 D = some (.lst acc) ∧ acc.length < sizeLine ∧ Nx (upd H4 D (.lst (acc ++ [y]))) else Nx H3) := by
  refine lc_it w (fun j H => ∃ ys, I j ys H ∧ H D = some (.lst ys) ∧ ys.length = j) ⟨[], h0, upd_same, rfl⟩ (fun j H _ ⟨ys, h, _⟩ => hG j ys H h) ?_ ?_
  · rintro j x H H' hj ⟨ys, hi, e, g⟩ ⟨rfl, hx⟩
    refine ⟨hw x, ?_⟩
    dsimp only [tYes]
    rw [if_pos rfl]
    refine hs j x ys H' hx hi e _ fun y H4 e4 h4 => ⟨ys, e4, ?_, ys ++ [y], h4, upd_same, by rw [List.length_append, g]; rfl⟩
    exact Nat.lt_of_lt_of_le (by omega : ys.length < 1001) (by decide)
  · rintro H ⟨ys, hi, e, g⟩
    exact hd H ys hi e g
end
end My
/-! len of an instance whose class has its own __len__. -/
namespace My
open PySem PySem.Spec L2
open PyProof.Rows hiding St
/-- what an own __len__ promises: the n that R names -/
def spLen (R : Addr → Hp → Nat → Prop) : Sp := fun vs H Q _ => ∃ a n, vs = [.ref a] ∧ R a H n ∧ ∀ H', Same H H' → Q (.int (n : Int)) H'
def rLenOwn (C : Addr) (R : Addr → Hp → Nat → Prop) : List V → Hp → VK → Prop := fun xs H Q => ∃ a dx fs n, xs = [.ref a] ∧ H a = some (.ins C dx fs) ∧ R a H n ∧ n < 1000000 ∧ ∀ H', Same H H' → Q (.int (n : Int)) H'
section
variable {X : Cx} {CX : CXT} {k : Nat} {f C : Addr} {fd : FuncData} {ps : List Str} {E : XK}
theorem call_lenOwn {R : Addr → Hp → Nat → Prop} (F : FnOk X.prog X.w X.K X.mg X.base CX k f fd ps (spLen R)) (room : Room (k + 1) X.A) (has : PySem.W.findIn X.K (.ref C) "__len__" = some (some (.ref f))) (fn : PySem.W.isFn X.K (.ref f) = true)
    (bd : Binds X.K fd ps []) (out : Passes CX X E) : CallR X (.builtin "len") (rLenOwn C R) := by
  intro pins s σ H xs us Q I rv want
  obtain ⟨a, dx, fs, n, rfl, ha, hR, hn, q⟩ := want
  cases rv with
  | cons r0 r1 =>
  cases r1
  obtain rfl := (show _ = Value.ref a from r0)
  obtain ⟨mA, O, _⟩ := ins_get I.hok ha
  obtain ⟨od, J, _⟩ := O.look
  have kind : PySem.W.Looks (model X.prog X.w) s.heap (typeOf (.ref a)) (.ref C) := NwA.type_at J.at_ rfl
  have spec : PySem.W.Looks (model X.prog X.w) s.heap (specialOf (.ref a) "__len__") (some (.ref f)) := kind.andThen (PySem.W.looks_findIn I.kIn has)
  have bind := fun self => PySem.W.bind_fn (M := model X.prog X.w) I.kIn self (beq_iff_eq.mp fn)
  have want2 : spLen R [.ref a] H (fun v H' => v = .int (n : Int) ∧ Q v H') E := ⟨a, n, rfl, hR, fun H' sm => ⟨rfl, q H' sm⟩⟩
  have bd2 := bd s [.ref a] I.kIn (by rw [List.append_nil]; exact F.len _ _ _ _ want2)
  rw [List.append_nil] at bd2
  have run : wpAny (model X.prog X.w) X.A.in1 (call (.ref f) [.ref a]) (EP X pins σ fun v H' => v = .int (n : Int) ∧ Q v H') X.xe s := by
    refine wpAny_call (codeAny_mono (F.run X.A.in1 X.stack s H ⟨[.ref a], []⟩ [.ref a] [.ref a] _ E room.in1 I.env0.in1 bd2 (.cons rfl .nil) want2) fun r s2 back => ?_)
    match r, back with
    | .error e, b => exact out pins σ H s e s2 I b
    | .ok (.ret u), b => exact I.after b
    | .ok .next, b => exact b.elim
    | .ok .brk, b => exact b.elim
    | .ok .cont, b => exact b.elim
  refine Calls.call_function_entry kind_len plain_len entry_len (args_len1 _) ?_
  unfold Builtin.«len»
  refine wpAny_bind (m := oneArg "len" _) (wpAny_pure ?_)
  have cs : ∀ {R : Option Value → Shared → Prop}, (∀ t s2, EP X pins σ (fun v H' => v = .int (n : Int) ∧ Q v H') (.int (n : Int) t) s2 → R (some (.int (n : Int) t)) s2) → wpAny (model X.prog X.w) X.A.in1 (callSpecial? (.ref a) (PySem.Str.ofString "__len__")) R X.xe s := by
    intro R hR2
    unfold callSpecial?
    refine wpAny_bind (spec.here ?_)
    refine wpAny_holding (wpAny_bind ((bind _).here (wpAny_bind (wpAny_mono run (fun u s2 e2 => wpAny_pure ?_) fun _ _ x => x))))
    obtain ⟨v, H2, I2, rv2, ev, q2⟩ := id e2
    subst ev
    obtain ⟨t, rfl⟩ := rv2
    exact hR2 t s2 e2
  refine wpAny_bind (m := callSpecial? (.ref a) (PySem.Str.ofString "__len__")) (cs fun t s2 e2 => ?_)
  obtain ⟨v, H2, I2, rv2, ev, q2⟩ := e2
  subst ev
  refine wpAny_bind (wpAny_holding (wpAny_pure ?_))
  refine wpAny_bind (wpAny_letGo ?_)
  show wpAny _ _ (if ((n : Nat) : Int) < 0 then _ else _) _ _ _
  rw [if_neg (by omega)]
  show wpAny _ _ (if ((n : Nat) : Int) ≥ 2 ^ 63 then _ else _) _ _ _
  rw [if_neg (by omega)]
  exact wpAny_bind (wpAny_mkInt (wpAny_pure ⟨_, rfl, .int (n : Int), H2, I2.tok _, ⟨_, rfl⟩, q2⟩))
end
end My
/-! enumerate over a tuple; over what a name holds, be it a list or a tuple. -/
namespace My
open PySem PySem.Spec L2
open PyProof.Rows hiding St
open AutoSeq1 (wpAny_loadPart')
theorem new_enumT (l : Addr) (items : Array Value) (n : Nat) (dct : Option Addr) (sl : Array (Option Value)) :
    Meets (Builtin.«enumerate.__new__» ⟨[.type "enumerate", .ref l], []⟩) (fun _ R s => s.heap.get? l = some { cls := .type "tuple", dict := dct, data := .seq items n, slots := sl } ∧
      R (.ok (.ret (.ref (s.heap.push { cls := .type "tuple_iterator", data := .fields #[.ref l, .int 0 0] }).objs.size)))
        { s with heap := (s.heap.push { cls := .type "tuple_iterator", data := .fields #[.ref l, .int 0 0] }).push { cls := .type "enumerate", data := .fields #[.none, .bool false, .ref s.heap.objs.size, rawInt 0, .none, .none] } }) :=
  .of_wp fun prog w A R s h => by
    obtain ⟨hp, g, d, tk, os⟩ := s
    obtain ⟨hl, h⟩ := h
    have hsub := sub_enumerate
    have tup : Heap.IsTuple (Shared.heap ⟨hp, g, d, tk, os⟩) l items := ⟨_, hl, rfl, n, rfl⟩
    wp_walk using wpAny_loadPart' hl
    refine wpAny_stack_any fun st => wpAny_pure ?_
    split
    · rename_i c _ _ _ _ _
      cases (c == Value.type "enumerate") <;> (wp_walk using wpAny_loadPart' hl, wpAny_pyIter_tuple tup; exact ⟨_, rfl, h⟩)
    · wp_walk using wpAny_loadPart' hl, wpAny_pyIter_tuple tup
      exact ⟨_, rfl, h⟩
theorem make_enumT {prog : Program} {w : World} {A : Around} {E : Value → Shared → Prop} {s : Shared} {l : Addr} {items : Array Value} {Q : Value → Shared → Prop} (tup : s.heap.IsTuple l items)
    (h : ∀ h', IsEnum h' (s.heap.objs.size + 1) s.heap.objs.size 0 .none → h'.IsTupleIter s.heap.objs.size l 0 → (∀ b o, s.heap.get? b = some o → h'.get? b = some o) → Q (.ref (s.heap.objs.size + 1)) { s with heap := h' }) :
    wpAny (model prog w) A (call (.type "enumerate") [.ref l]) Q E s := by
  obtain ⟨⟨c, dct, dt, sl⟩, hl, hc, n, hd⟩ := tup
  simp only at hc hd
  subst hc hd
  refine callType_new F.called_enumerate (by decide) (F.typeCall_enumerate_1 _) (F.newCall_enumerate_1 _) (fun obj => F.args_object_init_2 obj _) F.entry_enumerate_new (new_enumT l items n dct sl) ⟨hl, ?_⟩
  have sz : (s.heap.push { cls := .type "tuple_iterator", data := .fields #[.ref l, .int 0 0] }).objs.size = s.heap.objs.size + 1 := Heap.size_push ..
  have en := Heap.get?_push_size (s.heap.push { cls := .type "tuple_iterator", data := .fields #[.ref l, .int 0 0] }) (o := { cls := .type "enumerate", data := .fields #[.none, .bool false, .ref s.heap.objs.size, rawInt 0, .none, .none] }) rfl
  show _ ∧ _
  rw [sz] at en ⊢
  exact ⟨⟨_, en, rfl⟩, h _ en ⟨_, Heap.get?_push_of_some _ (Heap.get?_push_size _ rfl), rfl, rfl⟩ fun b o x => Heap.get?_push_of_some _ (Heap.get?_push_of_some _ x)⟩
/-- the tuple at a, each item in a new pair -/
def IteT (K : PySem.W.Frag) (a : Addr) : It :=
  ⟨fun i H => ∃ (xs : List V) (x : V), SqT K H a xs ∧ xs[i]? = some x, fun i H v H' => ∃ T x, v = .ref T ∧ H T = none ∧ H' = upd H T (.tup [.int (i : Nat), x]) ∧ ∀ xs, SqT K H a xs → xs[i]? = some x, fun i H => ∃ xs : List V, SqT K H a xs ∧ xs.length ≤ i⟩
theorem turn_enumT {P : Program} {w : World} {K : PySem.W.Frag} {elts : List Expr} {kk : Nat} {tpos : Pos} {a e it : Addr} (nae : a ≠ e) (nai : a ≠ it) :
    Turn P w K (.Tuple elts kk tpos) (IteT K a) [e, it] e (fun i h => (∃ old, IsEnum h e it ((i : Nat) : Int) old) ∧ h.IsTupleIter it a i ∧ e ≠ it) where
  mem := by simp
  obj := fun i h st b hb => by
    obtain ⟨⟨old, he⟩, ⟨o, ho, hc, hd⟩, _⟩ := st
    rcases (show b = e ∨ b = it by simpa using hb) with z | z
    · subst z
      exact ⟨_, he, fun v q => nomatch q⟩
    · subst z
      exact ⟨o, ho, fun v q => by rw [hd] at q; cases q⟩
  keep := fun i h h' st k => let ⟨⟨old, he⟩, hi, hne⟩ := st; ⟨⟨old, k e (by simp) _ he⟩, hi.at fun o q => k it (by simp) o q, hne⟩
  item := by
    intro X hP hw hK hc i pins s σ H E I hf st hg
    subst hP hw hK
    obtain ⟨⟨old, he⟩, hit, hne⟩ := st
    obtain ⟨xs, x, hq, hx⟩ := hg
    obtain ⟨its, rv, tp, hz⟩ := I.tuple hq
    obtain ⟨u, hu, ru⟩ := rv.get hx
    have tup : s.heap.IsTuple a its.toArray := tp
    have sizes : ∀ b ∈ [e, it], b < s.heap.objs.size := by
      intro b hb
      rcases (show b = e ∨ b = it by simpa using hb) with z | z
      · rw [z]
        exact Heap.lt_size he
      · obtain ⟨_, q, _⟩ := hit
        rw [z]
        exact Heap.lt_size q
    have hiu : i < its.toArray.size := by
      have := (List.getElem?_eq_some_iff.mp hu).1
      simpa using this
    refine wpAny_pyNext_enum_itemD (Draws.tuple (A := X.A.in1) (show X.A.in1.handled = none from I.ok.hd hc) it a nai its.toArray) he (show s.heap.IsTupleIter it a i ∧ s.heap.IsTuple a its.toArray from ⟨hit, tup⟩) hiu hne (by simp [hne, Ne.symm nae]) fun y h' tk hy ho hst hT hsz hk => ?_
    have ey : y = u := by
      have h2 : its.toArray[i]? = some u := by simpa using hu
      rw [h2] at hy
      exact (Option.some.inj hy).symm
    subst ey
    refine ⟨_, rfl, wpAny_letOwnedTupleGo_enum (s := { s with heap := h', toks := tk + 1 }) ho fun h'' he' sb => ?_⟩
    have hel := sizes e (by simp)
    have hT2 : h''.get? s.heap.objs.size = some { cls := .type "tuple", data := .seq #[.int i tk, y] } := (sb.2 _ (Nat.ne_of_gt hel)).trans hT
    have new : ObjOk X.prog X.w (upd H s.heap.objs.size (.tup [.int (i : Nat), x])) h'' s.heap.objs.size (.tup [.int (i : Nat), x]) :=
      ⟨by show 2 ≤ sizeLine; decide, [.int i tk, y], .cons ⟨_, rfl⟩ (.cons ru .nil), ⟨_, hT2, rfl, _, rfl⟩⟩
    have I1 : Inv X pins σ (upd H s.heap.objs.size (.tup [.int (i : Nat), x])) { s with heap := h'', toks := tk + 1 } :=
      I.turnedNew (ch := [e, it]) (fun b ob hb q => (sb.2 b (fun z => hb (by simp [z]))).trans (hk b ob (fun z => hb (by simp [z])) (fun z => hb (by simp [z])) q)) hf (Nat.le_refl _) new
    refine ⟨.ref s.heap.objs.size, _, I1, rfl, ⟨_, x, rfl, I.hok.fresh (Nat.le_refl _), rfl, fun ys hy2 => by rw [I.tuple_inj hy2 hq]; exact hx⟩, ⟨⟨y, ?_⟩, hst.1.at fun o q => (sb.2 it (Ne.symm hne)).trans q, hne⟩, fun b hb => ?_⟩
    · have e1 : ((i + 1 : Nat) : Int) = (i : Int) + 1 := by omega
      rw [e1]
      exact he'
    · rw [upd_ne (Nat.ne_of_lt (sizes b hb))]
      exact (hf b hb).1
  done := by
    intro X hP hw hK hc i pins s σ H E I hf st hg
    subst hP hw hK
    obtain ⟨⟨old, he⟩, hit, hne⟩ := st
    obtain ⟨xs, hq, hx⟩ := hg
    obtain ⟨its, rv, tp, hz⟩ := I.tuple hq
    have tup : s.heap.IsTuple a its.toArray := tp
    have many := rv.length
    obtain ⟨f0, f1, f2, f3, f4, f5⟩ := hf it (by simp)
    have D := Draws.tuple (prog := X.prog) (w := X.w) (A := X.A.in1) (show X.A.in1.handled = none from I.ok.hd hc) it a nai its.toArray
    have hT : s.TypeIs (.ref e) "enumerate" := ⟨_, he, rfl⟩
    have gone : its.toArray[i]? = none := Array.getElem?_eq_none (by rw [List.size_toArray]; omega)
    unfold pyNext
    refine wpAny_bind (wpAny_attempt (wpAny_callSpecial?_slot (name := Str.ofString "__next__") hT F.slot_enumerate_next
      (wpAny_call_entry F.slot_enumerate_next hT F.entry_enumerate_next ?_ (F.args_enumerate_next_1 _))))
    show wpAny _ _ (field (.ref e) 2 >>= _) _ _ _
    refine wpAny_bind (wpAny_field he rfl (x := .ref it) rfl ?_)
    refine wpAny_bind (wpAny_nextOf_tuple_end (show X.A.in1.handled = none from I.ok.hd hc) hit tup gone fun h' x he' hx' => ?_)
    obtain ⟨o, ho, hc⟩ := hx'
    refine wpAny_bind (wpAny_isInstance (T := "StopIteration") (b := true) ⟨o, ho, hc⟩ isSubtype_stop ?_)
    exact wpAny_pure ⟨rfl, I.turned (t' := s.toks) (fun b o hb q => he' b o hb q) f0 f1 f3 f4 f5⟩
  self := fun A i s Q E st h => let ⟨⟨_, he⟩, _⟩ := st; wpAny_pyIter_enum he h
def iEnumT (K : PySem.W.Frag) (ta : TA) : TI := fun σ H R => ta σ H fun vs H1 => ∃ a xs, vs = [.ref a] ∧ SqT K H1 a xs ∧ R (IteT K a) H1
theorem pi_enumT {X : Cx} {e : Expr} {ta : TA} {p pos tpos : Pos} {elts : List Expr} {kk : Nat} (hg : Gl X "enumerate") (hm : X.mg "enumerate" = none) (ha : PA X [e] ta) (hs : starEach [e] X.env = [(false, eval e X.env)] := by rfl) :
    PI X (.Tuple elts kk tpos) (.Call (.Name "enumerate" p) [e] [] pos) (iEnumT X.K ta) := by
  refine ⟨fun pins s σ H R I want => Call_ (ld_blt I hg hm boot_enumerate (PyProof.Rows.callWith_type1 (thn (ha.run pos pins s σ H _ I want) fun us s1 ⟨vs, H1, J, rv, q⟩ => ?_) hs rfl))⟩
  obtain ⟨a, xs, rfl, hq, q⟩ := q
  cases rv with
  | cons r0 r1 =>
    cases r1
    cases r0
    obtain ⟨its, rv, tp, hz⟩ := J.tuple hq
    have low : a < s1.heap.objs.size := by
      obtain ⟨o, ho, _⟩ := tp
      exact Heap.lt_size ho
    refine make_enumT tp fun h' he hit hk => wpAny_pyIter_enum he ?_
    refine ⟨s1.heap.objs.size + 1, [s1.heap.objs.size + 1, s1.heap.objs.size], _, _, H1, rfl, J.kept (t' := s1.toks) hk, turn_enumT (a := a) (e := s1.heap.objs.size + 1) (it := s1.heap.objs.size) (Nat.ne_of_lt (Nat.lt_trans low (Nat.lt_succ_self _))) (Nat.ne_of_lt low), ⟨⟨.none, he⟩, hit, Nat.succ_ne_self _⟩, fun b hb => ?_, q⟩
    have hle : s1.heap.objs.size ≤ b := by
      rcases (show b = s1.heap.objs.size + 1 ∨ b = s1.heap.objs.size by simpa using hb) with z | z
      · rw [z]
        exact Nat.le_succ _
      · rw [z]
        exact Nat.le_refl _
    exact J.fpOk hle (J.hok.fresh hle)
theorem walk_enumT {K : PySem.W.Frag} {a : Addr} {xs : List V} : Walk (IteT K a) xs.length (fun H => SqT K H a xs) (YPair (fun i => some (.int (i : Nat))) (fun i => xs[i]?)) := by
  refine ⟨fun i _ hi q => ⟨xs, xs[i], q, by simp [hi]⟩, fun _ q => ⟨xs, q, Nat.le_refl _⟩, fun i H v H' _ q y => ?_⟩
  obtain ⟨T, x, h1, h2, h3, h4⟩ := y
  exact ⟨T, .int (i : Nat), x, h1, h2, h3, rfl, h4 xs q⟩
/-- enumerate over a name that holds a list or a tuple -/
theorem pi_enumv {X : Cx} {e : Expr} {ta : TA} {p pos tpos : Pos} {elts : List Expr} {kk : Nat} (hg : Gl X "enumerate") (hm : X.mg "enumerate" = none) (ha : PA X [e] ta) (hs : starEach [e] X.env = [(false, eval e X.env)] := by rfl) :
    PI X (.Tuple elts kk tpos) (.Call (.Name "enumerate" p) [e] [] pos) (iOr (iEnum X.K ta) (iEnumT X.K ta)) := pi_or (pi_enum hg hm ha hs) (pi_enumT hg hm ha hs)
theorem enumv {K : PySem.W.Frag} {σ : L2.St} {H : Hp} {i : Nat} {a : Addr} {xs : List V} {R : It → Hp → Prop} (hv : σ[i]? = some (some (.ref a))) (hS : H a = some (.lst xs) ∨ H a = some (.tup xs))
    (h : ∀ (J : It) (G : Hp → Prop), Walk J xs.length G (YPair (fun i => some (.int (i : Nat))) (fun i => xs[i]?)) → (∀ H', Same H H' → G H') → R J H) : iOr (iEnum K (tCons (tVar i) tNil)) (iEnumT K (tCons (tVar i) tNil)) σ H R := by
  rcases hS with e | e
  · exact .inl ⟨_, hv, a, xs, rfl, SqL.of e, h _ _ walk_enum fun H' s => SqL.of (s _ _ e)⟩
  · exact .inr ⟨_, hv, a, xs, rfl, SqT.of e, h _ _ walk_enumT fun H' s => SqT.of (s _ _ e)⟩
end My
/-! == with anything, != of two instances, by an own __eq__ without an own __ne__. -/
namespace My
open PySem PySem.Spec L2
open PyProof.Rows hiding St
/-- what an own __eq__ answers: the bool r that R names, for any other value -/
def spEqAny (R : Addr → V → Hp → Bool → Prop) : Sp := fun vs H Q _ => ∃ a y r, vs = [.ref a, y] ∧ R a y H r ∧ ∀ H', Same H H' → Q (.bl r) H'
def rEqLst (C : Addr) (R : Addr → V → Hp → Bool → Prop) : R2 := fun x y H Q => ∃ a dx fs r b ys, x = .ref a ∧ y = .ref b ∧ H a = some (.ins C dx fs) ∧ H b = some (.lst ys) ∧ R a y H r ∧ ∀ H', Same H H' → Q (.bl r) H'
def rNeIns (C : Addr) (R : Addr → V → Hp → Bool → Prop) : R2 := fun x y H Q => ∃ a b dx dy fs gs r, x = .ref a ∧ y = .ref b ∧ H a = some (.ins C dx fs) ∧ H b = some (.ins C dy gs) ∧ R a (.ref b) H r ∧ ∀ H', Same H H' → Q (.bl (!r)) H'
section
variable {X : Cx} {k : Nat} {f C : Addr} {fd : FuncData} {ps : List Str} {R : Addr → V → Hp → Bool → Prop}
theorem own_runs {pins : List (Addr × Obj)} {σ : L2.St} {H : Hp} {s : Shared} {a : Addr} {y : V} {u : Value} {r : Bool} {A : Around} (F : FnOk X.prog X.w X.K X.mg X.base CX0 k f fd ps (spEqAny R)) (room : Room k A) (fr : A.frames = X.A.frames) (bd : Binds X.K fd ps [])
    (I : Inv X pins σ H s) (ry : RelV y u) (hR : R a y H r) {E : Value → Shared → Prop} : wpAny (model X.prog X.w) A (call (.ref f) [.ref a, u]) (fun v s2 => v = Value.bool r ∧ ∃ H2, Same H H2 ∧ Inv X pins σ H2 s2) E s := by
  have want : spEqAny R [.ref a, y] H (fun v H2 => v = .bl r ∧ Same H H2) (fun _ _ _ => False) := ⟨a, y, r, rfl, hR, fun H' sm => ⟨rfl, sm⟩⟩
  have e := I.env0
  have st : Env0 X.prog X.w X.K X.mg X.base A X.stack s H := ⟨by rw [fr]; exact e.frames, e.mod, e.bs, e.bsz, e.funs, e.frf, e.hok, e.bare⟩
  have bd2 := bd s [.ref a, u] I.kIn (by rw [List.append_nil]; exact F.len _ _ _ _ want)
  rw [List.append_nil] at bd2
  refine wpAny_call (codeAny_mono (F.run A X.stack s H ⟨[.ref a, u], []⟩ [.ref a, u] [.ref a, y] _ _ room st bd2 (.cons rfl (.cons ry .nil)) want) fun q s2 back => ?_)
  match q, back with
  | .error err, b => exact b.elim
  | .ok .next, b => exact b.elim
  | .ok .brk, b => exact b.elim
  | .ok .cont, b => exact b.elim
  | .ok (.ret z), b =>
    obtain ⟨v, H2, J, rz, ez, sm⟩ := I.after b
    subst ez
    exact ⟨rz, H2, sm, J⟩
theorem sub_list {K : PySem.W.Frag} {C : Addr} : PySem.W.notFirst K C (.type "list") = true := by
  have e : fastBuiltinMro "list" = some [.type "list", .type "object"] := by decide +kernel
  have e2 : PySem.W.subIn K (.type "list") (.ref C) = some false := by
    show (fastBuiltinMro "list").map (·.contains (.ref C)) = some false
    rw [e]
    first
      | rfl
      | simp
  unfold PySem.W.notFirst
  rw [e2]
  simp
/-- x == y, x an instance, y a list -/
theorem op_eqLst (F : FnOk X.prog X.w X.K X.mg X.base CX0 k f fd ps (spEqAny R)) (room : Room k X.A) (hs : PySem.W.findIn X.K (.ref C) "__eq__" = some (some (.ref f))) (hf : PySem.W.isFn X.K (.ref f) = true) (bd : Binds X.K fd ps []) : OpR X (compareOp .Eq) (rEqLst C R) := by
  intro pins s σ H x y v u Q I rx ry want
  obtain ⟨a, dx, fs, r, b, ys, rfl, rfl, ha, hb, hR, q⟩ := want
  obtain rfl : v = Value.ref a := rx
  obtain rfl : u = Value.ref b := ry
  obtain ⟨_, ja, _⟩ := ins_get I.hok ha
  obtain ⟨_, ka, _⟩ := ja.look
  obtain ⟨m, fr⟩ := I.fr
  obtain ⟨_, _, n, _, h1⟩ := (show ObjOk X.prog X.w H s.heap b (.lst ys) from I.hok b _ hb)
  show wpAny (model X.prog X.w) X.A (richCompare .Eq (.ref a) (.ref b)) (EP X pins σ Q) X.xe s
  have lk : PySem.W.Looks (model X.prog X.w) s.heap (typeOf (.ref b)) (.type "list") := fun _ _ _ _ k q => wpAny_typeOf_ref (k _ _ h1) q
  refine PySem.W.cmp_K (op := .Eq) (tb := .type "list") room.units0 fr I.ok.mod.kin ka lk sub_list hs hf ?_
  refine wpAny_mono (own_runs F room rfl bd I (y := .ref b) (u := .ref b) rfl hR) (fun z s2 e => ?_) fun _ _ e => e
  obtain ⟨rfl, H2, sm, J⟩ := e
  exact ⟨.bl r, H2, J, rfl, q H2 sm⟩
def rEqIns (C : Addr) (R : Addr → V → Hp → Bool → Prop) : R2 := fun x y H Q => ∃ a b dx dy fs gs r, x = .ref a ∧ y = .ref b ∧ H a = some (.ins C dx fs) ∧ H b = some (.ins C dy gs) ∧ R a (.ref b) H r ∧ ∀ H', Same H H' → Q (.bl r) H'
theorem op_eqIns (F : FnOk X.prog X.w X.K X.mg X.base CX0 k f fd ps (spEqAny R)) (room : Room k X.A) (hs : PySem.W.findIn X.K (.ref C) "__eq__" = some (some (.ref f))) (hf : PySem.W.isFn X.K (.ref f) = true) (bd : Binds X.K fd ps []) : OpR X (compareOp .Eq) (rEqIns C R) := by
  intro pins s σ H x y v u Q I rx ry want
  obtain ⟨a, b, dx, dy, fs, gs, r, rfl, rfl, ha, hb, hR, q⟩ := want
  obtain rfl : v = Value.ref a := rx
  obtain rfl : u = Value.ref b := ry
  obtain ⟨_, ja, _⟩ := ins_get I.hok ha
  obtain ⟨_, ka, _⟩ := ja.look
  obtain ⟨_, jb, _⟩ := ins_get I.hok hb
  obtain ⟨_, kb, _⟩ := jb.look
  obtain ⟨m, fr⟩ := I.fr
  show wpAny (model X.prog X.w) X.A (richCompare .Eq (.ref a) (.ref b)) (EP X pins σ Q) X.xe s
  refine PySem.W.cmp_K (op := .Eq) (tb := .ref C) room.units0 fr I.ok.mod.kin ka kb.type (by simp [PySem.W.notFirst]) hs hf ?_
  refine wpAny_mono (own_runs F room rfl bd I (y := .ref b) (u := .ref b) rfl hR) (fun z s2 e => ?_) fun _ _ e => e
  obtain ⟨rfl, H2, sm, J⟩ := e
  exact ⟨.bl r, H2, J, rfl, q H2 sm⟩
theorem op_neIns (G : FnOk X.prog X.w X.K X.mg X.base CX0 k f fd ps (spEqAny R)) (room : Room (k + 1) X.A) (hs : PySem.W.findIn X.K (.ref C) "__eq__" = some (some (.ref f))) (hn : PySem.W.findIn X.K (.ref C) "__ne__" = some (some (.builtin "object.__ne__"))) (hm : PySem.W.mroIn X.K C (.type "object") = some true)
    (hf : PySem.W.isFn X.K (.ref f) = true) (bd : Binds X.K fd ps []) : OpR X (compareOp .NotEq) (rNeIns C R) := by
  intro pins s σ H x y v u Q I rx ry want
  obtain ⟨a, b, dx, dy, fs, gs, r, rfl, rfl, ha, hb, hR, q⟩ := want
  obtain rfl : v = Value.ref a := rx
  obtain rfl : u = Value.ref b := ry
  obtain ⟨_, ja, _⟩ := ins_get I.hok ha
  obtain ⟨_, ka, _⟩ := ja.look
  obtain ⟨_, jb, _⟩ := ins_get I.hok hb
  obtain ⟨_, kb, _⟩ := jb.look
  have KI := I.kIn
  have fin : ∀ s2, (∃ H2, Same H H2 ∧ Inv X pins σ H2 s2) → EP X pins σ Q (.bool (!r)) s2 := by
    rintro s2 ⟨H2, sm, J⟩
    exact ⟨.bl (!r), H2, J, rfl, q H2 sm⟩
  have body : wpAny (model X.prog X.w) X.A.in1 (Builtin.«object.__ne__» ⟨[.ref a, .ref b], []⟩) (fun z s2 => z = .done (.ret (.bool (!r))) ∧ ∃ H2, Same H H2 ∧ Inv X pins σ H2 s2) X.xe s := by
    have hu : X.A.in1.units < cLine := room.in1.units0
    unfold Builtin.«object.__ne__»
    repeat (first
      | with_reducible refine wpAny_cRoomFor hu ?_
      | (refine wpAny_bind (m := callSpecialIfBound? (.ref a) (Str.ofString "__eq__") [.ref b]) (PySem.W.ifBound_K KI ka hs hf (wpAny_mono (own_runs G room.in1 rfl bd I (y := .ref b) (u := .ref b) rfl hR) (fun z s2 e => by
          obtain ⟨rfl, e⟩ := e
          repeat (first | exact ⟨rfl, e⟩ | exact wpAny_pure ⟨rfl, e⟩ | (refine wpAny_bind (m := truthy (.bool _)) (wpAny_truthy_bool ?_)) | wp_step)) fun _ _ e => e)))
      | wp_step)
  have ne1 : ∀ {Z : Value → Shared → Prop}, (∀ s2, (∃ H2, Same H H2 ∧ Inv X pins σ H2 s2) → Z (.bool (!r)) s2) → wpAny (model X.prog X.w) X.A (call (.builtin "object.__ne__") [.ref a, .ref b]) Z X.xe s := by
    intro Z hZ
    refine wpAny_call (codeAny_call_builtin F.cmp_object.ne.plain F.cmpEntry_ne (PySem.W.check_slot F.cmpKind_ne F.cmpSplit_ne (ka.type.andThen (PySem.W.looks_mroIn KI hm)) (F.cmpArgs_ne _ _) (wpAny_mono body (fun z s2 e => ?_) fun _ _ e => e)))
    obtain ⟨rfl, e⟩ := e
    exact hZ s2 e
  have try1 : wpAny (model X.prog X.w) X.A (tryCompare (.ref a) "__ne__" (.ref b)) (fun z s2 => ∃ v, z = some v ∧ EP X pins σ Q v s2) X.xe s := by
    unfold tryCompare
    have go : wpAny (model X.prog X.w) X.A (callSpecialIfBound? (.ref a) "__ne__" [.ref b]) (fun z s2 => z = some (.bool (!r)) ∧ ∃ H2, Same H H2 ∧ Inv X pins σ H2 s2) X.xe s := by
      simp only [callSpecialIfBound?, bindSpecialIfBound?]
      refine wpAny_holding (wpAny_bind (wpAny_bind (wpAny_bind (ka.type.here ((PySem.W.looks_findIn KI hn).here ?_)))))
      refine wpAny_bind (wpAny_askSetting (wpAny_ite ?_))
      have tail : wpAny (model X.prog X.w) X.A (call (.builtin "object.__ne__") ([.ref a] ++ [.ref b]) >>= fun v => pure (some v)) (fun z s2 => z = some (.bool (!r)) ∧ ∃ H2, Same H H2 ∧ Inv X pins σ H2 s2) X.xe s := wpAny_bind (ne1 fun s2 e => wpAny_pure ⟨rfl, e⟩)
      split
      · exact wpAny_bind (wpAny_of_eq (F.cmp_object.ne.bind _) (wpAny_pure (by exact tail)))
      · exact wpAny_tryCatch (wpAny_bind (wpAny_of_eq (F.cmp_object.ne.bind _) (wpAny_pure (by exact tail))))
    refine wpAny_bind (wpAny_mono go (fun z s2 e => ?_) fun _ _ e => e)
    obtain ⟨rfl, e⟩ := e
    exact wpAny_pure ⟨_, rfl, fin s2 e⟩
  show wpAny (model X.prog X.w) X.A (richCompare .NotEq (.ref a) (.ref b)) (EP X pins σ Q) X.xe s
  unfold richCompare
  simp only [oneThing_ref]
  refine wpAny_holding (wpAny_bind (wpAny_cRoomFor room.units0 ?_))
  refine wpAny_bind (ka.type.here (wpAny_bind (kb.type.here ?_)))
  rw [cmpInfo_NotEq]
  dsimp only
  rw [show (Value.ref C != Value.ref C) = false from by simp]
  simp only [Bool.false_eq_true, if_false]
  refine wpAny_bind (wpAny_pure ?_)
  simp only [Bool.false_eq_true, if_false]
  refine wpAny_bind (wpAny_mono try1 (fun z s2 e => ?_) fun _ _ e => e)
  obtain ⟨v, rfl, e⟩ := e
  exact wpAny_pure e
end
end My
namespace My
open PySem L2
def top (i : Nat) : Stmt := PySem.Challenge.pw_freelots_k01_rows_made.main.body.getD i (.Pass ⟨0, 0, 0, 0⟩)
/-! ### a reading of ints and names, told as plain words -/
theorem at0 {a : V} {r : List V} : atI (a :: r) 0 = some a := atI_nat (j := 0) rfl
theorem at1 {a b : V} {r : List V} : atI (a :: b :: r) 1 = some b := atI_nat (j := 1) rfl
theorem at2 {a b c : V} {r : List V} : atI (a :: b :: c :: r) 2 = some c := atI_nat (j := 2) rfl
theorem set0 : ixN 3 0 = some 0 := rfl
theorem set1 : ixN 3 1 = some 1 := rfl
theorem set2 : ixN 3 2 = some 2 := rfl
theorem upd_upd {H : Hp} {a : Addr} {o u : HO} : upd (upd H a o) a u = upd H a u := by
  funext b
  by_cases e : b = a
  · rw [e, upd_same, upd_same]
  · rw [upd_ne e, upd_ne e, upd_ne e]
theorem scal_int (i j : Int) : scal (V.int i) (V.int j) = true := rfl
local macro_rules | `(tactic| walk_at "rd") => `(tactic| (simp (config := { failIfUnchanged := true }) only [gName, gSub, rSetL, fIxL, fIxT, fLenL, fLenT, CPowW, CDivN, tRet, L2.start, List.map_cons, List.map_nil, List.length_cons, List.length_nil, List.replicate_succ, List.replicate_zero, List.cons_append, List.nil_append, Nat.reduceAdd, Nat.reduceSub, HO.lst.injEq, HO.tup.injEq, at0, at1, at2, set0, set1, set2, upd_same, upd_upd, tSeq, tIfS, tAnd, tTest, tOp, tVar, tC, rI, rI0, tAsg, tNext, tCB, tCons, tNil, rEq, CMul, CPow,
  List.set, List.getElem?_cons_zero, List.getElem?_cons_succ, Option.some.injEq, V.int.injEq, V.bl.injEq, V.ref.injEq, reduceCtorEq, List.cons.injEq, and_true, true_and, and_false, false_and, exists_false, or_false, false_or,
  decide_eq_true_eq, Bool.false_eq_true, if_false, if_true, exists_eq_left', exists_eq_left, exists_and_left, exists_eq_right, exists_eq, exists_eq', exists_const, scal_int, Int.reduceLT, Int.reduceLE, Int.reduceNeg, Int.reducePow, Nat.reducePow, Nat.reduceLT, Int.reduceToNat, or_true, true_or, decide_true, decide_false]))
/-! ### the law's own draws -/
abbrev sSource : Stmt := top 20
abbrev sDraw : Stmt := top 21
abbrev sPick : Stmt := top 22
theorem same_upd {H : Hp} {p : Addr} {o : HO} (h : H p = none) : Same H (upd H p o) := by
  intro b x e
  rw [upd_ne (ne_of_none e h)]
  exact e
/-- what the source's list holds behind at most n draws -/
def SrcL (n : Nat) (o : HO) : Prop := ∃ (g sd c : Int), o = .lst [.int g, .int sd, .int c] ∧ 0 ≤ sd ∧ sd < 2147483647 ∧ 0 ≤ c ∧ c ≤ (n : Int)
theorem SrcL.mono {m n : Nat} {o : HO} (h : SrcL m o) (l : m ≤ n) : SrcL n o := by
  obtain ⟨g, sd, c, e, h1, h2, h3, h4⟩ := h
  exact ⟨g, sd, c, e, h1, h2, h3, by omega⟩
def spSource (K : PySem.W.Frag) : Sp := fun vs H Q _ => ∃ (a : Addr) (ns : List Int), vs = [.ref a] ∧ SqL K H a (ns.map V.int) ∧
  ∀ (H' : Hp) (p : Addr) (o : HO), Same H H' → H p = none → H' p = some o → SrcL 0 o → Q (.ref p) H'
def spDraw : Sp := fun vs H Q _ => ∃ (p : Addr) (o : HO) (n : Nat) (m : Int), vs = [.ref p, .int m] ∧ H p = some o ∧ SrcL n o ∧ n ≤ 100000 ∧ 0 < m ∧ m < 1000000 ∧
  ∀ (r : Int) (o' : HO), 0 ≤ r → r < m → SrcL (n + 1) o' → Q (.int r) (upd H p o')
def spPick (K : PySem.W.Frag) : Sp := fun vs H Q _ => ∃ (p l : Addr) (o : HO) (n : Nat) (xs : List V), vs = [.ref p, .ref l] ∧ H p = some o ∧ SrcL n o ∧ n ≤ 100000 ∧ H l = some (.lst xs) ∧ xs ≠ [] ∧ xs.length < 1000 ∧ p ≠ l ∧
  ∀ (x : V) (o' : HO), x ∈ xs → SrcL (n + 1) o' → Q x (upd H p o')
section
variable {P : Program} {w : World} {K : PySem.W.Frag} {mg : Str → Option Value} {base : Heap}
theorem scSo : FnScope ["_law_script", "_law_great", "_law_seed", "_law_cell"] ["_law_script"] (defScope sSource) := ⟨rfl, rfl, rfl, by decide +kernel, rfl, by decide +kernel, by decide +kernel⟩
theorem ok_source {f : Addr} {fd : FuncData} (F : Fun K "_law_source" "_law_source" sSource f fd) (mI : mg "int" = none) : FnOk P w K mg base CX0 1 f fd ["_law_script"] (spSource K) := by
  refine F.ok scSo (fun vs H Q E h => ?_) (fun cdv A outer s H vs Q E hr h => ?_)
  · obtain ⟨a, ns, rfl, _⟩ := h
    rfl
  · obtain ⟨a, ns, rfl, hS, k⟩ := h
    have nd := scSo.nd
    refine ⟨_, pss_cons (ps_asg (pe_tup (pa_cons pe_int (pa_cons pe_int pa_nil))) (pg_tup (by rfl) (pgs_cons (pg_name (i := 1) nd rfl (.inl rfl)) (pgs_cons (pg_name (i := 2) nd rfl (.inl rfl)) pgs_nil))))
      (pss_cons (ps_for PassesOwn.never rfl (pi_list (pv 0)) (pg_name (i := 3) nd rfl (.inl rfl))
        (pss_cons (ps_if (PW.pt (pw_and (pt_cmpR op_eq (pv 1) pe_int (nomark _)) (pw_and1 (pt_cmpR op_ge (pv 3) (pe_op op_pow pe_int pe_int) (nomark _)))))
            (pss_one (ps_set (i := 1) nd rfl (.inl rfl) (pv 3))) pss_nil)
          (pss_one (ps_set (i := 2) nd rfl (.inl rfl)
            (pe_op op_mod (pe_callTy call_int1 (by rfl) mI (by decide +kernel) (pa_cons (pe_op op_add (pe_op op_add (pe_op op_mul (pv 2) pe_int) (pv 3)) pe_int) pa_nil)) pe_int)))))
      (pss_one (ps_ret (pe_lst (pa_cons (pv 1) (pa_cons (pv 2) (pa_cons pe_int pa_nil))))))), ?_⟩
    refine ⟨by show 2 ≤ sizeLine; decide, fun t ht => ?_⟩
    have s1 : Same H (upd H t (.tup [.int 0, .int 17])) := same_upd ht
    refine ⟨t, [.int 0, .int 17], rfl, .inl (.inl upd_same), rfl, .int 0, [.int 17], rfl, .int 17, [], rfl, rfl, ?_⟩
    refine ⟨.ref a, rfl, a, rfl, ⟨_, s1.seq hS⟩, for_list (K := K) (a := a) (xs := ns.map V.int) (fun i σ H' => ∃ (g sd : Int) (v : Option V), σ = [some (.ref a), some (.int g), some (.int sd), v] ∧ 0 ≤ sd ∧ sd < 2147483647 ∧ H' = upd H t (.tup [.int 0, .int 17]))
      ⟨0, 17, none, rfl, by decide, by decide, rfl⟩ (fun i σ H' _ ⟨_, _, _, _, _, _, e⟩ => by rw [e]; exact s1.seq hS) ?_ ?_⟩
    · rintro i y σ H' hi ⟨g, sd, v, rfl, h0, h1, rfl⟩
      obtain ⟨u, rfl⟩ : ∃ u, y = V.int u := by
        rw [List.getElem?_map] at hi
        cases e : ns[i]? with
        | none =>
          rw [e] at hi
          cases hi
        | some u =>
          rw [e] at hi
          exact ⟨u, (Option.some.inj hi).symm⟩
      walk_at "rd"
      have m0 : 0 ≤ (sd * 31 + u + 7) % 2147483647 := Int.emod_nonneg _ (by decide)
      have m1 : (sd * 31 + u + 7) % 2147483647 < 2147483647 := Int.emod_lt_of_pos _ (by decide)
      refine ite2 (fun _ => ⟨by decide, ite2 (fun _ => ?_) (fun _ => ?_)⟩) (fun _ => ?_)
      all_goals exact ⟨_, _, _, ⟨rfl, rfl, rfl⟩, m0, m1⟩
    · rintro σ H' ⟨g, sd, v, rfl, h0, h1, rfl⟩
      refine ⟨_, rfl, _, rfl, by show 3 ≤ sizeLine; decide, fun p hp => ?_⟩
      have np : H p = none := by
        by_cases e : p = t
        · rw [e]
          exact ht
        · rw [upd_ne e] at hp
          exact hp
      exact k _ p _ (s1.trans (same_upd hp)) np upd_same ⟨g, sd, 0, rfl, h0, h1, by decide, by decide⟩
theorem scDr : FnScope ["_law_source_here", "_law_many", "_law_digit", "_law_mixed"] ["_law_source_here", "_law_many"] (defScope sDraw) := ⟨rfl, rfl, rfl, by decide +kernel, rfl, by decide +kernel, by decide +kernel⟩
theorem ok_draw {f : Addr} {fd : FuncData} (F : Fun K "_law_draw" "_law_draw" sDraw f fd) (mI : mg "int" = none) : FnOk P w K mg base CX0 1 f fd ["_law_source_here", "_law_many"] spDraw := by
  refine F.ok scDr (fun vs H Q E h => ?_) (fun cdv A outer s H vs Q E hr h => ?_)
  · obtain ⟨p, o, n, m, rfl, _⟩ := h
    rfl
  · obtain ⟨p, o, n, m, rfl, hp, ⟨g, sd, c, rfl, h0, h1, c0, c1⟩, hn, m0, m1, k⟩ := h
    have nd := scDr.nd
    refine ⟨_, pss_cons (ps_asg (pe_op op_add (pe_ix ixL (pv 0) pe_int (fun _ _ => rfl)) pe_int) (pg_sub (pv 0) pe_int set_list))
      (pss_cons (ps_if (pt_cmpR op_gt (pe_ix ixL (pv 0) pe_int (fun _ _ => rfl)) pe_int (nomark _))
          (pss_cons (ps_set (i := 2) nd rfl (.inl rfl) (pe_op op_mod (pe_callTy call_int1 (by rfl) mI (by decide +kernel) (pa_cons (pe_ix ixL (pv 0) pe_int (fun _ _ => rfl)) pa_nil)) (pv 1)))
            (pss_cons (ps_asg (pe_op op_fdivN (pe_ix ixL (pv 0) pe_int (fun _ _ => rfl)) (pv 1)) (pg_sub (pv 0) pe_int set_list))
              (pss_one (ps_ret (pv 2))))) pss_nil)
        (pss_cons (ps_set (i := 3) nd rfl (.inl rfl) (pe_op op_mod (pe_op op_pow (pe_op op_add (pe_ix ixL (pv 0) pe_int (fun _ _ => rfl)) (pe_op op_mul pe_int (pe_ix ixL (pv 0) pe_int (fun _ _ => rfl)))) pe_int) pe_int))
          (pss_one (ps_ret (pe_op op_mod (pe_op op_mod (pe_op op_pow (pe_op op_add (pe_op op_add (pe_op op_mul (pv 3) pe_int)
            (pe_op op_mul (pe_op op_mul pe_int (pe_ix ixL (pv 0) pe_int (fun _ _ => rfl))) (pe_ix ixL (pv 0) pe_int (fun _ _ => rfl)))) pe_int) pe_int) pe_int) (pv 1)))))), ?_⟩
    walk_at "rd"
    simp only [hp]
    walk_at "rd"
    have hn' : (n : Int) ≤ 100000 := by omega
    refine ite2 (fun _ => ⟨m0, ⟨by omega, by omega⟩, ?_⟩) (fun _ => ⟨by omega, .inr (by omega), ?_, m0, ?_⟩)
    · exact k _ _ (Int.emod_nonneg _ (by omega)) (Int.emod_lt_of_pos _ m0) ⟨_, sd, c + 1, rfl, h0, h1, by omega, by omega⟩
    · have r0 : 0 ≤ (sd + 7919 * (c + 1)) ^ 5 % 2147483629 := Int.emod_nonneg _ (by decide)
      have r1 : (sd + 7919 * (c + 1)) ^ 5 % 2147483629 < 2147483629 := Int.emod_lt_of_pos _ (by decide)
      have q0 : 0 ≤ 16807 * (c + 1) * (c + 1) := Int.mul_nonneg (by omega) (by omega)
      have q1 : 16807 * (c + 1) * (c + 1) ≤ 1680716807 * 100001 := Int.mul_le_mul (by omega) (by omega) (by omega) (by decide)
      omega
    · exact k _ _ (Int.emod_nonneg _ (by omega)) (Int.emod_lt_of_pos _ m0) ⟨_, sd, c + 1, rfl, h0, h1, by omega, by omega⟩
theorem scPi : FnScope ["_law_source_here", "_law_things"] ["_law_source_here", "_law_things"] (defScope sPick) := ⟨rfl, rfl, rfl, by decide +kernel, rfl, by decide +kernel, by decide +kernel⟩
theorem ok_pick {f fD : Addr} {fd fdD : FuncData} (F : Fun K "_law_pick" "_law_pick" sPick f fd) (GD : FnOk P w K mg base CX0 1 fD fdD ["_law_source_here", "_law_many"] spDraw) (mD : mg "_law_draw" = some (.ref fD))
    (kD : PySem.W.keepIn K (.ref fD) = true) (bD : Binds K fdD ["_law_source_here", "_law_many"] []) (mL : mg "len" = none) :
    FnOk P w K mg base CX0 2 f fd ["_law_source_here", "_law_things"] (spPick K) := by
  refine F.ok scPi (fun vs H Q E h => ?_) (fun cdv A outer s H vs Q E hr h => ?_)
  · obtain ⟨p, l, o, n, xs, rfl, _⟩ := h
    rfl
  · obtain ⟨p, l, o, n, xs, rfl, hp, ho, hn, hl, hx, hz, npl, k⟩ := h
    refine ⟨_, pss_one (ps_ret (pe_ix ixL (pv 1) (pe_call GD hr rfl mD kD bD .nil pass0 (pa_cons (pv 0) (pa_cons (pe_callB lenL (by rfl) mL PySem.boot_len (pa_cons (pv 1) pa_nil)) pa_nil))) (fun _ _ => rfl))), ?_⟩
    have hpos : 0 < xs.length := List.length_pos_iff.mpr hx
    refine ⟨_, rfl, _, rfl, _, rfl, l, xs, rfl, hl, p, o, n, _, rfl, hp, ho, hn, by omega, by omega, fun r o' r0 r1 ho' => ?_⟩
    obtain ⟨j, rfl⟩ : ∃ j : Nat, r = j := ⟨r.toNat, by omega⟩
    have hj : j < xs.length := by omega
    refine ⟨l, j, xs, xs[j], rfl, rfl, by rw [upd_ne (Ne.symm npl)]; exact hl, atI_nat (List.getElem?_eq_getElem hj), ?_⟩
    exact k _ _ (List.getElem_mem hj) ho'
end
/-! ### checks, of ints in lists and tuples -/
abbrev sWhole : Stmt := top 10
abbrev sList : Stmt := top 12
abbrev sField : Stmt := top 13
abbrev sRow : Stmt := top 14
abbrev sFault : Stmt := top 15
abbrev sTold : Stmt := top 17
/-- at a: a list or a tuple of xs -/
def Sq (H : Hp) (a : Addr) (xs : List V) : Prop := H a = some (.lst xs) ∨ H a = some (.tup xs)
theorem Sq.same {H H' : Hp} {a : Addr} {xs : List V} (h : Sq H a xs) (s : Same H H') : Sq H' a xs := by
  rcases h with h | h
  · exact .inl (s _ _ h)
  · exact .inr (s _ _ h)
theorem same_new {H H' : Hp} {D : Addr} {o : HO} (n : H D = none) (s : Same H H') : Same H (upd H' D o) := by
  intro b x e
  rw [upd_ne (ne_of_none e n)]
  exact s _ _ e
/-- the names that checks use -/
structure Nm (mg : Str → Option Value) : Prop where
  isin : mg "isinstance" = none
  int : mg "int" = none
  bool : mg "bool" = none
  list : mg "list" = none
  tuple : mg "tuple" = none
  len : mg "len" = none
  all : mg "all" = none
  enum : mg "enumerate" = none
  str : mg "str" = none
  range : mg "range" = none
def spWhole : Sp := fun vs H Q _ => ∃ i, vs = [.int i] ∧ Q (.bl true) H
def spList : Sp := fun vs H Q _ => ∃ a xs, vs = [.ref a] ∧ Sq H a xs ∧ ∀ H', Same H H' → Q (.bl true) H'
def fields : List Int := [0, 2, 3, 5, 7, 11, 13]
def spField : Sp := fun vs H Q _ => ∃ i, vs = [.int i] ∧ i ∈ fields ∧ Q (.bl true) H
def spRow : Sp := fun vs H Q _ => ∃ (a : Addr) (ns : List Int), vs = [.ref a] ∧ Sq H a (ns.map V.int) ∧ ns.length ≤ 12 ∧ ∀ H', Same H H' → Q (.bl true) H'
section
variable {P : Program} {w : World} {K : PySem.W.Frag} {mg : Str → Option Value} {base : Heap}
theorem scWh : FnScope ["value"] ["value"] (defScope sWhole) := ⟨rfl, rfl, rfl, by decide +kernel, rfl, by decide +kernel, by decide +kernel⟩
theorem ok_whole {f : Addr} {fd : FuncData} (F : Fun K "is_whole" "is_whole" sWhole f fd) (N : Nm mg) : FnOk P w K mg base CX0 1 f fd ["value"] spWhole := by
  refine F.ok scWh (fun vs H Q E h => ?_) (fun cdv A outer s H vs Q E hr h => ?_)
  · obtain ⟨i, rfl, _⟩ := h
    rfl
  · obtain ⟨i, rfl, k⟩ := h
    refine ⟨_, pss_one (ps_ret (pe_and (pe_callB call_isi (by rfl) N.isin (by decide +kernel) (pa_cons (pv 0) (pa_cons (pe_bltn (v := V.ty "int") (by rfl) N.int (by decide +kernel) rfl) pa_nil)))
      (pe_one (pe_not (pe_callB call_isi (by rfl) N.isin (by decide +kernel) (pa_cons (pv 0) (pa_cons (pe_bltn (v := V.ty "bool") (by rfl) N.bool (by decide +kernel) rfl) pa_nil))))))), ?_⟩
    refine ⟨_, rfl, _, _, _, _, true, rfl, .ty _, .base (.int i), by kernel_rfl, true, rfl, iteT ?_⟩
    exact ⟨_, rfl, _, _, _, _, false, rfl, .ty _, .base (.int i), by kernel_rfl, false, rfl, k⟩
theorem scLi : FnScope ["value"] ["value"] (defScope sList) := ⟨rfl, rfl, rfl, by decide +kernel, rfl, by decide +kernel, by decide +kernel⟩
theorem ok_list {f : Addr} {fd : FuncData} (F : Fun K "is_list" "is_list" sList f fd) (N : Nm mg) : FnOk P w K mg base CX0 1 f fd ["value"] spList := by
  refine F.ok scLi (fun vs H Q E h => ?_) (fun cdv A outer s H vs Q E hr h => ?_)
  · obtain ⟨a, xs, rfl, _⟩ := h
    rfl
  · obtain ⟨a, xs, rfl, hS, k⟩ := h
    refine ⟨_, pss_one (ps_ret (pe_callB call_isiT (by rfl) N.isin (by decide +kernel) (pa_cons (pv 0) (pa_cons (pe_tup (pa_cons (pe_bltn (v := V.ty "list") (by rfl) N.list (by decide +kernel) rfl)
      (pa_cons (pe_bltn (v := V.ty "tuple") (by rfl) N.tuple (by decide +kernel) rfl) pa_nil))) pa_nil)))), ?_⟩
    refine ⟨_, rfl, by show 2 ≤ sizeLine; decide, fun t ht => ?_⟩
    have hS2 := hS.same (same_upd ht (o := .tup [.ty "list", .ty "tuple"]))
    rcases hS2 with h | h
    · exact ⟨_, t, _, _, _, true, rfl, upd_same, .cons (.ty _) (.cons (.ty _) .nil), .base (.lst h), by kernel_rfl, k _ (same_upd ht)⟩
    · exact ⟨_, t, _, _, _, true, rfl, upd_same, .cons (.ty _) (.cons (.ty _) .nil), .base (.tup h), by kernel_rfl, k _ (same_upd ht)⟩
theorem scFd : FnScope ["value"] ["value"] (defScope sField) := ⟨rfl, rfl, rfl, by decide +kernel, rfl, by decide +kernel, by decide +kernel⟩
theorem ok_field {f fW aF : Addr} {fd fdW : FuncData} (F : Fun K "is_field" "is_field" sField f fd) (FW : Fun K "is_whole" "is_whole" sWhole fW fdW) (bW : Binds K fdW ["value"] []) (gW : mg "is_whole" = some (.ref fW)) (N : Nm mg)
    (gF : mg "FIELDS" = some (.ref aF)) (tF : ∀ H, SqT K H aF (fields.map V.int)) : FnOk P w K mg base CX0 2 f fd ["value"] spField := by
  have GW := ok_whole (P := P) (w := w) (base := base) FW N
  refine F.ok scFd (fun vs H Q E h => ?_) (fun cdv A outer s H vs Q E hr h => ?_)
  · obtain ⟨i, rfl, _⟩ := h
    rfl
  · obtain ⟨i, rfl, hi, k⟩ := h
    refine ⟨_, pss_one (ps_ret (pe_and (pe_call GW hr rfl gW FW.kp bW .nil pass0 (pa_cons (pv 0) pa_nil)) (pe_one (pe_cmpR op_in_seq (pv 0) (pe_gref (by rfl) gF) (by rfl))))), ?_⟩
    refine ⟨_, rfl, i, rfl, true, rfl, iteT ⟨_, rfl, aF, _, rfl, .inr (tF H), rfl, rfl, ?_⟩⟩
    have e : inV (.int i) (fields.map V.int) = true := by
      simp only [fields, List.mem_cons, List.not_mem_nil, or_false] at hi
      rcases hi with rfl | rfl | rfl | rfl | rfl | rfl | rfl <;> rfl
    rw [if_neg Bool.false_ne_true, e]
    exact k
theorem scRw : FnScope ["value", "number"] ["value"] (defScope sRow) := ⟨rfl, rfl, rfl, by decide +kernel, rfl, by decide +kernel, by decide +kernel⟩
theorem all_yes {n : Nat} : ((List.range n).map fun _ => V.bl true) = ((List.range n).map fun _ => true).map V.bl := by
  rw [List.map_map]
  rfl
theorem all_yes2 {n : Nat} : ((List.range n).map fun _ => true).all id = true := by
  rw [List.all_eq_true]
  intro b hb
  obtain ⟨_, _, rfl⟩ := List.mem_map.mp hb
  rfl
theorem int_at {ns : List Int} {j : Nat} {x : V} (h : (ns.map V.int)[j]? = some x) : ∃ i, x = .int i ∧ ns[j]? = some i := by
  rw [List.getElem?_map] at h
  cases e : ns[j]? with
  | none =>
    rw [e] at h
    cases h
  | some i =>
    rw [e] at h
    cases h
    exact ⟨i, rfl, rfl⟩
theorem ok_row {f fW fL : Addr} {fd fdW fdL : FuncData} {tk : Tok} (F : Fun K "is_row" "is_row" sRow f fd) (FW : Fun K "is_whole" "is_whole" sWhole fW fdW) (bW : Binds K fdW ["value"] []) (gW : mg "is_whole" = some (.ref fW))
    (FL : Fun K "is_list" "is_list" sList fL fdL) (bL : Binds K fdL ["value"] []) (gL : mg "is_list" = some (.ref fL)) (N : Nm mg) (gM : mg "MOST_WIDTH" = some (.int 12 tk)) : FnOk P w K mg base CX0 2 f fd ["value"] spRow := by
  have GW := ok_whole (P := P) (w := w) (base := base) FW N
  have GL := ok_list (P := P) (w := w) (base := base) FL N
  refine F.ok scRw (fun vs H Q E h => ?_) (fun cdv A outer s H vs Q E hr h => ?_)
  · obtain ⟨a, ns, rfl, _⟩ := h
    rfl
  · obtain ⟨a, ns, rfl, hS, hl, k⟩ := h
    have nd := scRw.nd
    have hd12 : decide (((ns.map V.int).length : Int) ≤ 12) = true := by
      rw [List.length_map]
      exact decide_eq_true (by omega)
    rcases hS with hS | hS
    · refine ⟨_, pss_one (ps_ret (pe_and (pe_call GL hr rfl gL FL.kp bL .nil pass0 (pa_cons (pv 0) pa_nil)) (pe_and (pe_cmpR op_le (pe_callB lenL (by rfl) N.len PySem.boot_len (pa_cons (pv 0) pa_nil)) (pe_glob (v := .int 12) (by rfl) gM ⟨_, rfl⟩) (nomark _))
        (pe_one (pe_callB (cr_all rfl) (by rfl) N.all (by decide +kernel) (pa_cons (pe_lc (own := [("number", 1)]) (g := gName 1) (tt := tYes) rfl nd (pi_list (pv 0)) (blkOk_by (own := [("number", 1)]) (N := ["value", "number"]) (sc := defScope sRow) (by decide +kernel))
          (fun _ _ _ _ _ => pg_name (i := 1) nd rfl (Or.inl rfl)) (fun _ _ _ _ _ => pts_nil) (fun _ _ _ _ _ => pe_call GW hr rfl gW FW.kp bW .nil pass0 (pa_cons (pv 1) pa_nil))) pa_nil)))))), ?_⟩
      refine ⟨_, rfl, a, _, rfl, .inl hS, fun H1 s1 => ⟨true, rfl, iteT ⟨_, rfl, a, _, rfl, s1 _ _ hS, _, _, rfl, rfl, _, rfl, ?_⟩⟩⟩
      rw [if_pos hd12]
      refine ⟨_, rfl, a, rfl, ⟨_, SqL.of (s1 _ _ hS)⟩, fun D nD => comp_list (fun _ H' => Same H1 H') (fun _ y => y = .bl true) same_refl (fun _ _ _ h => same_new nD h) (fun _ _ h => SqL.of (h _ _ (s1 _ _ hS)))
        (by rw [List.length_map]; omega) (fun _ => rfl) ?_ ?_⟩
      · intro j x H' hx hH R hR
        obtain ⟨i, rfl, _⟩ := int_at hx
        exact ⟨_, rfl, i, rfl, hR _ _ rfl hH rfl⟩
      · intro H' ys hH e g
        rw [g.map (f := fun _ => .bl true) (fun _ _ _ h => h), all_yes] at e
        refine ⟨D, _, rfl, SqL.of e, ?_⟩
        rw [all_yes2]
        exact k _ (s1.trans hH)
    · refine ⟨_, pss_one (ps_ret (pe_and (pe_call GL hr rfl gL FL.kp bL .nil pass0 (pa_cons (pv 0) pa_nil)) (pe_and (pe_cmpR op_le (pe_callB lenT (by rfl) N.len PySem.boot_len (pa_cons (pv 0) pa_nil)) (pe_glob (v := .int 12) (by rfl) gM ⟨_, rfl⟩) (nomark _))
        (pe_one (pe_callB (cr_all rfl) (by rfl) N.all (by decide +kernel) (pa_cons (pe_lc (own := [("number", 1)]) (g := gName 1) (tt := tYes) rfl nd (pi_tup (pv 0)) (blkOk_by (own := [("number", 1)]) (N := ["value", "number"]) (sc := defScope sRow) (by decide +kernel))
          (fun _ _ _ _ _ => pg_name (i := 1) nd rfl (Or.inl rfl)) (fun _ _ _ _ _ => pts_nil) (fun _ _ _ _ _ => pe_call GW hr rfl gW FW.kp bW .nil pass0 (pa_cons (pv 1) pa_nil))) pa_nil)))))), ?_⟩
      refine ⟨_, rfl, a, _, rfl, .inr hS, fun H1 s1 => ⟨true, rfl, iteT ⟨_, rfl, a, _, rfl, s1 _ _ hS, _, _, rfl, rfl, _, rfl, ?_⟩⟩⟩
      rw [if_pos hd12]
      refine ⟨_, rfl, a, rfl, ⟨_, SqT.of (s1 _ _ hS)⟩, fun D nD => comp_tup (fun _ H' => Same H1 H') (fun _ y => y = .bl true) same_refl (fun _ _ _ h => same_new nD h) (fun _ _ h => SqT.of (h _ _ (s1 _ _ hS)))
        (by rw [List.length_map]; omega) (fun _ => rfl) ?_ ?_⟩
      · intro j x H' hx hH R hR
        obtain ⟨i, rfl, _⟩ := int_at hx
        exact ⟨_, rfl, i, rfl, hR _ _ rfl hH rfl⟩
      · intro H' ys hH e g
        rw [g.map (f := fun _ => .bl true) (fun _ _ _ h => h), all_yes] at e
        refine ⟨D, _, rfl, SqL.of e, ?_⟩
        rw [all_yes2]
        exact k _ (s1.trans hH)
/-- rows: at each of some addresses a list or a tuple of ints, all of the same length -/
def RowsAt (H : Hp) (wd : Nat) (rs : List Addr) (nss : List (List Int)) : Prop := Paired (fun r ns => Sq H r (ns.map V.int) ∧ ns.length = wd) rs nss
theorem RowsAt.same {H H' : Hp} {wd : Nat} : ∀ {rs : List Addr} {nss : List (List Int)}, RowsAt H wd rs nss → Same H H' → RowsAt H' wd rs nss
  | _, _, .nil, _ => .nil
  | _, _, .cons h t, s => .cons ⟨h.1.same s, h.2⟩ (RowsAt.same t s)
theorem ref_at {rs : List Addr} {j : Nat} {x : V} (h : (rs.map V.ref)[j]? = some x) : ∃ r, x = .ref r ∧ rs[j]? = some r := by
  rw [List.getElem?_map] at h
  cases e : rs[j]? with
  | none =>
    rw [e] at h
    cases h
  | some i =>
    rw [e] at h
    cases h
    exact ⟨i, rfl, rfl⟩
theorem sq_or {K : PySem.W.Frag} {H : Hp} {a : Addr} {xs : List V} (h : Sq H a xs) : SqL K H a xs ∨ SqT K H a xs := by
  rcases h with h | h
  · exact .inl (SqL.of h)
  · exact .inr (SqT.of h)
def spFault : Sp := fun vs H Q _ => ∃ (a : Addr) (wd : Nat) (rs : List Addr) (nss : List (List Int)), vs = [.ref a] ∧ H a = some (.lst (rs.map V.ref)) ∧ RowsAt H wd rs nss ∧ wd ≤ 12 ∧ rs.length ≤ 60 ∧ ∀ H', Same H H' → Q .non H'
theorem scFa : FnScope ["rows", "index", "row"] ["rows"] (defScope sFault) := ⟨rfl, rfl, rfl, by decide +kernel, rfl, by decide +kernel, by decide +kernel⟩
theorem ok_fault {f fR fL : Addr} {fd fdR fdL : FuncData} {tk : Tok} (F : Fun K "rows_fault" "rows_fault" sFault f fd) (GR : FnOk P w K mg base CX0 2 fR fdR ["value"] spRow) (kR : PySem.W.keepIn K (.ref fR) = true) (bR : Binds K fdR ["value"] []) (gR : mg "is_row" = some (.ref fR))
    (FL : Fun K "is_list" "is_list" sList fL fdL) (bL : Binds K fdL ["value"] []) (gL : mg "is_list" = some (.ref fL)) (N : Nm mg) (gM : mg "MOST_ROWS" = some (.int 60 tk)) : FnOk P w K mg base CX0 3 f fd ["rows"] spFault := by
  have GL := ok_list (P := P) (w := w) (base := base) FL N
  refine F.ok scFa (fun vs H Q E h => ?_) (fun cdv A outer s H vs Q E hr h => ?_)
  · obtain ⟨a, wd, rs, nss, rfl, _⟩ := h
    rfl
  · obtain ⟨a, wd, rs, nss, rfl, hA, hR, hw, hn, k⟩ := h
    have nd := scFa.nd
    have hr1 : Room 1 _ := hr.mono (by decide)
    refine ⟨_, pss_cons (ps_if (pt_not (pt_val (pe_call GL hr1 rfl gL FL.kp bL .nil pass0 (pa_cons (pv 0) pa_nil)))) (pss_one (ps_ret pe_int)) pss_nil)
      (pss_cons (ps_for PassesOwn.never rfl (pi_enum (by rfl) N.enum (pa_cons (pv 0) pa_nil)) (pg_tup rfl (pgs_cons (pg_name (i := 1) nd rfl (.inl rfl)) (pgs_cons (pg_name (i := 2) nd rfl (.inl rfl)) pgs_nil)))
        (pss_one (ps_if (PW.pt (pw_or (pt_not (pt_val (pe_call GR hr rfl gR kR bR .nil pass0 (pa_cons (pv 2) pa_nil)))) (pw_or1 (pt_cmpR op_ne (pe_callB call_len_seq (by rfl) N.len PySem.boot_len (pa_cons (pv 2) pa_nil))
          (pe_callB call_len_seq (by rfl) N.len PySem.boot_len (pa_cons (pe_ix ixL (pv 0) pe_int (fun _ _ => rfl)) pa_nil)) (nomark _))))) (pss_one (ps_ret (pv 1))) pss_nil)))
      (pss_one (ps_ret (pe_ifExp (pt_cmpR op_gt (pe_callB lenL (by rfl) N.len PySem.boot_len (pa_cons (pv 0) pa_nil)) (pe_glob (v := .int 60) (by rfl) gM ⟨_, rfl⟩) (nomark _)) (pe_glob (v := .int 60) (by rfl) gM ⟨_, rfl⟩) pe_non)))), ?_⟩
    refine ⟨_, rfl, a, _, rfl, .inl hA, fun H1 s1 => ⟨true, rfl, iteF ?_⟩⟩
    refine ⟨_, rfl, a, _, rfl, SqL.of (s1 _ _ hA), for_enum (fun i σ H' => ∃ u v, σ = [some (.ref a), u, v] ∧ Same H1 H') ⟨none, none, rfl, same_refl⟩ (fun i σ H' _ ⟨_, _, _, sH⟩ => SqL.of (sH _ _ (s1 _ _ hA))) ?_ ?_⟩
    · rintro i x T σ H' hx ⟨u, v, rfl, sH⟩ nT
      obtain ⟨r, rfl, hr0⟩ := ref_at hx
      obtain ⟨ns, hns, hrow, hlen⟩ := paired_get hR hr0
      obtain ⟨r0, h00⟩ : ∃ r0, rs[0]? = some r0 := ⟨rs[0]'(by have := (List.getElem?_eq_some_iff.mp hr0).1; omega), List.getElem?_eq_getElem _⟩
      obtain ⟨n0, hn0, hrow0, hlen0⟩ := paired_get hR h00
      have sT := (s1.trans sH).trans (same_upd nT (o := .tup [.int (i : Nat), .ref r]))
      refine ⟨T, [.int (i : Nat), .ref r], rfl, .inl (.inl upd_same), rfl, .int (i : Nat), [.ref r], rfl, .ref r, [], rfl, rfl, ?_⟩
      refine ⟨_, rfl, r, ns, rfl, hrow.same sT, by omega, fun H2 s2 => ⟨true, rfl, iteF ?_⟩⟩
      have s3 := sT.trans s2
      refine ⟨_, rfl, r, _, rfl, sq_or (hrow.same s3), _, rfl, a, 0, _, .ref r0, rfl, rfl, s3 _ _ hA, atI_nat (j := 0) (by rw [List.getElem?_map, h00]; rfl), r0, _, rfl, sq_or (hrow0.same s3), rfl, _, rfl, ?_⟩
      have e : decide (V.int ((ns.map V.int).length : Int) = V.int ((n0.map V.int).length : Int)) = true := by
        rw [List.length_map, List.length_map, hlen, hlen0]
        exact decide_eq_true rfl
      rw [e]
      refine iteF ?_
      exact ⟨_, _, rfl, (sH.trans (same_upd nT)).trans s2⟩
    · rintro σ H' ⟨u, v, rfl, sH⟩
      refine ⟨_, rfl, a, _, rfl, sH _ _ (s1 _ _ hA), _, _, rfl, rfl, _, rfl, ?_⟩
      have e : decide ((60 : Int) < ((rs.map V.ref).length : Int)) = false := by
        rw [List.length_map]
        exact decide_eq_false (by omega)
      rw [e]
      exact iteF (k _ (s1.trans sH))
end
/-! ### the table -/
abbrev sInit : Stmt := inClass (top 18) 0
def tell (f n : Int) : Int := if f = 0 then n else n % f
/-- a def with defaults -/
structure FunD (K : PySem.W.Frag) (x qual : Str) (st : Stmt) (f : Addr) (fd : FuncData) : Prop where
  ex : ∃ (oc : Value) (od : Option Addr) (dV kV doc pm : Value) (an : Option Addr) (cdv ct : Value) (osl : Array (Option Value)),
    fd = PySem.W.fnOf x qual (defArgs st) (defBody st) (defScope st) dV kV doc pm an cdv ct ∧ K.lookup f = some ⟨oc, od, .func fd, osl⟩ ∧ PySem.W.codeIn K cdv qual = true
section
variable {P : Program} {w : World} {K : PySem.W.Frag} {mg : Str → Option Value} {base : Heap}
theorem FunD.ok {x qual : Str} {st : Stmt} {f : Addr} {fd : FuncData} {N ps : List Str} {k : Nat} {sp : Sp} (F : FunD K x qual st f fd) (S : FnScope N ps (defScope st)) (len : ∀ vs H Q E, sp vs H Q E → vs.length = ps.length)
    (hb : ∀ (cdv : Value) (A : Around) (outer : List Env) (s : Shared) (H : Hp) (vs : List V) (Q : VK) (E : XK), Room k (A.deeper (PyProof.Rows.envOfC qual (defScope st) s.heap.objs.size f cdv)) → sp vs H Q E →
      ∃ t, PSs (cxOf CX0 P w K mg base N qual (defScope st) f cdv A outer s H E).nox (defBody st) t ∧ t { nx := fun _ H' => Q .non H', rt := Q } (L2.start N vs) H) : FnOk P w K mg base CX0 (k + 1) f fd ps sp := by
  obtain ⟨oc, od, dV, kV, doc, pm, an, cdv, ct, osl, rfl, lk, hcd⟩ := F.ex
  refine fn_of lk hcd S len fun A outer s H vs Q E hr hsp => ?_
  obtain ⟨t, h, q⟩ := hb cdv A outer s H vs Q E hr hsp
  exact ⟨t, h.nox, q⟩
def spTold : Sp := fun vs H Q _ => ∃ (a : Addr) (f : Int) (ns : List Int), vs = [.ref a, .int f] ∧ Sq H a (ns.map V.int) ∧ ns.length ≤ 12 ∧ 0 ≤ f ∧
  ∀ H' t, Same H H' → H t = none → H' t = some (.tup ((ns.map (tell f)).map V.int)) → Q (.ref t) H'
theorem scTo : FnScope ["row", "field", "number"] ["row", "field"] (defScope sTold) := ⟨rfl, rfl, rfl, by decide +kernel, rfl, by decide +kernel, by decide +kernel⟩
theorem told_items {ns : List Int} {f : Int} {n : Nat} {ys : List V} (hn : n = ns.length) (g : Gives (fun j y => ∀ i, ns[j]? = some i → y = V.int (tell f i)) n ys) : ys = (ns.map (tell f)).map V.int := by
  subst hn
  obtain ⟨h1, h2⟩ := g
  apply List.ext_getElem?
  intro j
  rw [List.getElem?_map, List.getElem?_map]
  by_cases hj : j < ns.length
  · rw [List.getElem?_eq_getElem hj, List.getElem?_eq_getElem (by omega)]
    have := h2 j _ (List.getElem?_eq_getElem (by omega)) _ (List.getElem?_eq_getElem hj)
    simp [this]
  · rw [List.getElem?_eq_none (by omega), List.getElem?_eq_none (by omega)]
    rfl
theorem ok_told {f : Addr} {fd : FuncData} (F : Fun K "told" "told" sTold f fd) (N : Nm mg) : FnOk P w K mg base CX0 1 f fd ["row", "field"] spTold := by
  refine F.ok scTo (fun vs H Q E h => ?_) (fun cdv A outer s H vs Q E hr h => ?_)
  · obtain ⟨a, f, ns, rfl, _⟩ := h
    rfl
  · obtain ⟨a, fl, ns, rfl, hS, hl, hf, k⟩ := h
    have nd := scTo.nd
    have turn : ∀ (H1 : Hp) (D : Addr) (j : Nat) (x : V) (H' : Hp), (ns.map V.int)[j]? = some x → Same H H' → ∀ R : VK, (∀ y H4, (∀ i, ns[j]? = some i → y = V.int (tell fl i)) → Same H H4 → H4 D = H' D → R y H4) →
        ∃ k, k = (fl != 0) ∧ if k = true then (∃ i j2, x = .int i ∧ V.int fl = .int j2 ∧ 0 < j2 ∧ R (.int (i % j2)) H') else ((∃ i, [x] = [V.int i] ∧ R (.int i) H') ∨ ∃ b, [x] = [V.bl b] ∧ R (.int (if b = true then 1 else 0)) H') := by
      intro H1 D j x H' hx hH R hR
      obtain ⟨i, rfl, hi⟩ := int_at hx
      refine ⟨_, rfl, ?_⟩
      by_cases z : fl = 0
      · have e : (fl != 0) = false := by simp [z]
        rw [e]
        refine iteF (.inl ⟨i, rfl, hR _ _ (fun i2 h2 => ?_) hH rfl⟩)
        rw [hi] at h2
        cases h2
        unfold tell
        rw [if_pos z]
      · have e : (fl != 0) = true := by simp [z]
        rw [e]
        refine iteT ⟨i, fl, rfl, rfl, by omega, hR _ _ (fun i2 h2 => ?_) hH rfl⟩
        rw [hi] at h2
        cases h2
        unfold tell
        rw [if_neg z]
    have fin : ∀ (H' : Hp) (D : Addr) (ys : List V), Same H H' → H' D = some (.lst ys) → Gives (fun j y => ∀ i, ns[j]? = some i → y = V.int (tell fl i)) (ns.map V.int).length ys →
        ∃ p zs, [V.ref D] = [V.ref p] ∧ ((SqL K H' p zs ∧ ∀ l, H' l = none → Q (.ref l) (upd H' l (.tup zs))) ∨ (SqT K H' p zs ∧ Q (.ref p) H')) := by
      intro H' D ys hH e g
      rw [told_items (List.length_map ..) g] at e
      refine ⟨D, _, rfl, .inl ⟨SqL.of e, fun l hl0 => k _ _ (hH.trans (same_upd hl0)) (hH.free hl0) upd_same⟩⟩
    rcases hS with hS | hS
    · refine ⟨_, pss_one (ps_ret (pe_callTy call_tuple_of (by rfl) N.tuple (by decide +kernel) (pa_cons (pe_lc (own := [("number", 2)]) (g := gName 2) (tt := tYes) rfl nd (pi_list (pv 0))
        (blkOk_by (own := [("number", 2)]) (N := ["row", "field", "number"]) (sc := defScope sTold) (by decide +kernel)) (fun _ _ _ _ _ => pg_name (i := 2) nd rfl (Or.inl rfl)) (fun _ _ _ _ _ => pts_nil)
        (fun _ _ _ _ _ => pe_ifExp (pt_truthI (pv 1) (by intro _; rfl)) (pe_op op_mod (pv 2) (pv 1)) (pe_callTy call_int1 (by rfl) N.int (by decide +kernel) (pa_cons (pv 2) pa_nil)))) pa_nil))), ?_⟩
      refine ⟨_, rfl, a, rfl, ⟨_, SqL.of hS⟩, fun D nD => comp_list (fun _ H' => Same H H') (fun j y => ∀ i, ns[j]? = some i → y = V.int (tell fl i)) same_refl (fun _ _ _ h => same_new nD h) (fun _ _ h => SqL.of (h _ _ hS)) (by rw [List.length_map]; omega) (fun _ => rfl) ?_ (fun H' ys hH e g => fin H' D ys hH e g)⟩
      intro j x H' hx hH R hR
      obtain ⟨kk, ek, hk⟩ := turn H D j x H' hx hH R hR
      refine ⟨_, rfl, fl, rfl, ?_⟩
      rw [← ek]
      cases kk with
      | true =>
        obtain ⟨i, j2, e1, e2, e3, e4⟩ := (if_pos rfl).mp hk
        refine iteT ⟨_, rfl, _, rfl, i, j2, e1, e2, e3, e4⟩
      | false =>
        have hk2 := (if_neg Bool.false_ne_true).mp hk
        refine iteF ⟨_, rfl, hk2⟩
    · refine ⟨_, pss_one (ps_ret (pe_callTy call_tuple_of (by rfl) N.tuple (by decide +kernel) (pa_cons (pe_lc (own := [("number", 2)]) (g := gName 2) (tt := tYes) rfl nd (pi_tup (pv 0))
        (blkOk_by (own := [("number", 2)]) (N := ["row", "field", "number"]) (sc := defScope sTold) (by decide +kernel)) (fun _ _ _ _ _ => pg_name (i := 2) nd rfl (Or.inl rfl)) (fun _ _ _ _ _ => pts_nil)
        (fun _ _ _ _ _ => pe_ifExp (pt_truthI (pv 1) (by intro _; rfl)) (pe_op op_mod (pv 2) (pv 1)) (pe_callTy call_int1 (by rfl) N.int (by decide +kernel) (pa_cons (pv 2) pa_nil)))) pa_nil))), ?_⟩
      refine ⟨_, rfl, a, rfl, ⟨_, SqT.of hS⟩, fun D nD => comp_tup (fun _ H' => Same H H') (fun j y => ∀ i, ns[j]? = some i → y = V.int (tell fl i)) same_refl (fun _ _ _ h => same_new nD h) (fun _ _ h => SqT.of (h _ _ hS)) (by rw [List.length_map]; omega) (fun _ => rfl) ?_ (fun H' ys hH e g => fin H' D ys hH e g)⟩
      intro j x H' hx hH R hR
      obtain ⟨kk, ek, hk⟩ := turn H D j x H' hx hH R hR
      refine ⟨_, rfl, fl, rfl, ?_⟩
      rw [← ek]
      cases kk with
      | true =>
        obtain ⟨i, j2, e1, e2, e3, e4⟩ := (if_pos rfl).mp hk
        refine iteT ⟨_, rfl, _, rfl, i, j2, e1, e2, e3, e4⟩
      | false =>
        have hk2 := (if_neg Bool.false_ne_true).mp hk
        refine iteF ⟨_, rfl, hk2⟩
/-- all but what stands at p is as before -/
def But (p : Addr) (H H' : Hp) : Prop := ∀ b u, b ≠ p → H b = some u → H' b = some u
theorem But.trans {p : Addr} {H H1 H2 : Hp} (h : But p H H1) (h2 : But p H1 H2) : But p H H2 := fun b u n e => h2 b u n (h b u n e)
theorem But.same {p : Addr} {H H1 : Hp} (h : Same H H1) : But p H H1 := fun b u _ e => h b u e
theorem But.upd {p : Addr} {H : Hp} {o : HO} : But p H (upd H p o) := fun b u n e => by rw [upd_ne n]; exact e
theorem But.free {p L : Addr} {A B : Hp} {u : HO} (h : But p A B) (hp : B p = some u) (n : B L = none) : A L = none := by
  cases e : A L with
  | none => rfl
  | some x =>
    by_cases e2 : L = p
    · rw [e2, hp] at n
      cases n
    · rw [h _ _ e2 e] at n
      cases n
theorem But.new {p D : Addr} {A B : Hp} {o : HO} (h : But p A B) (n : A D = none) : But p A (L2.upd B D o) := fun b u nb e => by
  rw [upd_ne (ne_of_none e n)]
  exact h b u nb e
structure RTxt (K : PySem.W.Frag) (mg : Str → Option Value) (C : Addr) : Prop where
  cl : Cls K C
  nF : NoAttr K C "_field"
  nR : NoAttr K C "_rows"
  nW : NoAttr K C "_width"
  mgC : mg "Rows" = some (.ref C)
def rf (f : Int) (t : Addr) (wd : Nat) : List (Str × V) := [("_field", .int f), ("_rows", .ref t), ("_width", .int (wd : Int))]
/-- the tuples of a table's rows, told -/
def ToldAt (H : Hp) (f : Int) (ts : List Addr) (nss : List (List Int)) : Prop := Paired (fun t ns => H t = some (.tup ((ns.map (tell f)).map V.int))) ts nss
theorem ToldAt.keep {H H' : Hp} {f : Int} : ∀ {ts : List Addr} {nss : List (List Int)}, ToldAt H f ts nss → (∀ t ∈ ts, ∀ u, H t = some u → H' t = some u) → ToldAt H' f ts nss
  | _, _, .nil, _ => .nil
  | _, _, .cons h t, s => .cons (s _ (.head _) _ h) (ToldAt.keep t fun x m => s x (.tail _ m))
/-- the table at p -/
def TabAt (C : Addr) (H : Hp) (p : Addr) (f : Int) (nss : List (List Int)) : Prop := ∃ dx t ts, H p = some (.ins C dx (rf f t (nss.headD []).length)) ∧ H t = some (.tup (ts.map V.ref)) ∧ ToldAt H f ts nss
theorem RowsAt.keep {H H' : Hp} {wd : Nat} : ∀ {rs : List Addr} {nss : List (List Int)}, RowsAt H wd rs nss → (∀ r ∈ rs, ∀ u, H r = some u → H' r = some u) → RowsAt H' wd rs nss
  | _, _, .nil, _ => .nil
  | _, _, .cons h t, s => .cons ⟨h.1.elim (fun e => .inl (s _ (.head _) _ e)) (fun e => .inr (s _ (.head _) _ e)), h.2⟩ (RowsAt.keep t fun x m => s x (.tail _ m))
theorem paired_memR {α β : Type} {R : α → β → Prop} : ∀ {xs : List α} {ys : List β}, Paired R xs ys → ∀ {y : β}, y ∈ ys → ∃ x, x ∈ xs ∧ R x y
  | _, _, .nil, _, h => nomatch h
  | _, _, .cons r _, _, .head _ => ⟨_, .head _, r⟩
  | _, _, .cons _ t, _, .tail _ m => by
    obtain ⟨x, h1, h2⟩ := paired_memR t m
    exact ⟨x, .tail _ h1, h2⟩
theorem paired_mem {α β : Type} {R : α → β → Prop} : ∀ {xs : List α} {ys : List β}, Paired R xs ys → ∀ {x : α}, x ∈ xs → ∃ y, y ∈ ys ∧ R x y
  | _, _, .nil, _, h => nomatch h
  | _, _, .cons r _, _, .head _ => ⟨_, .head _, r⟩
  | _, _, .cons _ t, _, .tail _ m => by
    obtain ⟨y, h1, h2⟩ := paired_mem t m
    exact ⟨y, .tail _ h1, h2⟩
theorem TabAt.keep {C : Addr} {H H' : Hp} {p : Addr} {f : Int} {nss : List (List Int)} (h : TabAt C H p f nss) (s : Same H H') : TabAt C H' p f nss := by
  obtain ⟨dx, t, ts, h1, h2, h3⟩ := h
  exact ⟨dx, t, ts, s _ _ h1, s _ _ h2, h3.keep fun t _ u e => s _ _ e⟩
def spInit0 (C : Addr) : Sp := fun vs H Q _ => ∃ (p a dx : Addr) (f : Int) (wd : Nat) (rs : List Addr) (nss : List (List Int)), vs = [.ref p, .ref a, .int f] ∧ H p = some (.ins C dx []) ∧ p ≠ a ∧ H a = some (.lst (rs.map V.ref)) ∧
  RowsAt H wd rs nss ∧ (∀ r ∈ rs, r ≠ p) ∧ wd ≤ 12 ∧ rs.length ≤ 60 ∧ f ∈ fields ∧ ∀ H', But p H H' → TabAt C H' p f nss → Q .non H'
theorem fields_ge {f : Int} (h : f ∈ fields) : 0 ≤ f ∧ f ≤ 13 := by
  simp only [fields, List.mem_cons, List.not_mem_nil, or_false] at h
  omega
theorem scIn : FnScope ["self", "rows", "field", "fault", "row"] ["self", "rows", "field"] (defScope sInit) := ⟨rfl, rfl, rfl, by decide +kernel, rfl, by decide +kernel, by decide +kernel⟩
theorem ok_init0 {f fF fA fT C : Addr} {fd fdF fdA fdT : FuncData} (F : FunD K "__init__" "Rows.__init__" sInit f fd) (T : RTxt K mg C) (N : Nm mg)
    (GF : FnOk P w K mg base CX0 2 fF fdF ["value"] spField) (kF : PySem.W.keepIn K (.ref fF) = true) (bF : Binds K fdF ["value"] []) (gF : mg "is_field" = some (.ref fF))
    (GA : FnOk P w K mg base CX0 3 fA fdA ["rows"] spFault) (kA : PySem.W.keepIn K (.ref fA) = true) (bA : Binds K fdA ["rows"] []) (gA : mg "rows_fault" = some (.ref fA))
    (GT : FnOk P w K mg base CX0 1 fT fdT ["row", "field"] spTold) (kT : PySem.W.keepIn K (.ref fT) = true) (bT : Binds K fdT ["row", "field"] []) (gT : mg "told" = some (.ref fT)) :
    FnOk P w K mg base CX0 4 f fd ["self", "rows", "field"] (spInit0 C) := by
  refine F.ok scIn (fun vs H Q E h => ?_) (fun cdv A outer s H vs Q E hr h => ?_)
  · obtain ⟨p, a, dx, f, wd, rs, nss, rfl, _⟩ := h
    rfl
  · obtain ⟨p, a, dx, fl, wd, rs, nss, rfl, hp, npa, hA, hR, hrp, hw, hn, hf, k⟩ := h
    have nd := scIn.nd
    have hr1 : Room 1 _ := hr.mono (by decide)
    have hr2 : Room 2 _ := hr.mono (by decide)
    have hg := fields_ge hf
    refine ⟨_, pss_cons (ps_if (pt_not (pt_val (pe_call GF hr2 rfl gF kF bF .nil pass0 (pa_cons (pv 2) pa_nil)))) pss_never pss_nil)
      (pss_cons (ps_set (i := 3) nd rfl (.inl rfl) (pe_call GA hr rfl gA kA bA .nil pass0 (pa_cons (pv 1) pa_nil)))
      (pss_cons (ps_if (pt_cmpR op_notN (pv 3) pe_non (nomark _)) pss_never pss_nil)
      (pss_cons (ps_fld (pv 0) (pe_callTy call_int1 (by rfl) N.int (by decide +kernel) (pa_cons (pv 2) pa_nil)) rfl)
      (pss_cons (ps_fld (pv 0) (pe_callTy call_tuple_of (by rfl) N.tuple (by decide +kernel) (pa_cons (pe_lc (own := [("row", 4)]) (g := gName 4) (tt := tYes) rfl nd (pi_list (pv 1))
        (blkOk_by (own := [("row", 4)]) (N := ["self", "rows", "field", "fault", "row"]) (sc := defScope sInit) (by decide +kernel)) (fun _ _ _ _ _ => pg_name (i := 4) nd rfl (Or.inl rfl)) (fun _ _ _ _ _ => pts_nil)
        (fun _ _ _ _ _ => pe_call GT hr1 rfl gT kT bT .nil pass0 (pa_cons (pv 4) (pa_cons (pv 2) pa_nil)))) pa_nil)) rfl)
      (pss_one (ps_fld (pv 0) (pe_ifExp (pt_cmpR op_gt (pe_callB lenL (by rfl) N.len PySem.boot_len (pa_cons (pv 1) pa_nil)) pe_int (nomark _))
        (pe_callB call_len_seq (by rfl) N.len PySem.boot_len (pa_cons (pe_ix ixL (pv 1) pe_int (fun _ _ => rfl)) pa_nil)) pe_int) rfl)))))), ?_⟩
    refine ⟨_, rfl, fl, rfl, hf, true, rfl, iteF ?_⟩
    refine ⟨_, rfl, a, wd, rs, nss, rfl, hA, hR, hw, hn, fun H1 s1 => ?_⟩
    refine ⟨_, rfl, rfl, _, rfl, iteF ?_⟩
    have hp1 := s1 _ _ hp
    refine ⟨_, rfl, .inl ⟨fl, rfl, ?_⟩⟩
    refine ⟨_, rfl, p, C, dx, [], rfl, hp1, T.cl, T.nF, by decide, ?_⟩
    have e1 : putF "_field" (V.int fl) [] = [(("_field" : Str), V.int fl)] := rfl
    rw [e1]
    generalize hH2 : upd H1 p (.ins C dx [(("_field" : Str), V.int fl)]) = H2
    have p2 : H2 p = some (.ins C dx [(("_field" : Str), V.int fl)]) := by rw [← hH2, upd_same]
    have b2 : But p H1 H2 := by rw [← hH2]; exact But.upd
    have hA2 : H2 a = some (.lst (rs.map V.ref)) := b2 _ _ (Ne.symm npa) (s1 _ _ hA)
    have hR2 : RowsAt H2 wd rs nss := RowsAt.keep hR (fun r hr0 u e => b2 _ _ (hrp r hr0) (s1 _ _ e))
    refine ⟨_, rfl, a, rfl, ⟨_, SqL.of hA2⟩, fun D nD => comp_listI (fun j ys H' => Same H2 H' ∧ ∃ ts : List Addr, ys = ts.map V.ref ∧ ToldAt H' fl ts (nss.take j) ∧ ∀ t ∈ ts, t ≠ D)
      ⟨same_upd nD, [], rfl, .nil, fun _ h => nomatch h⟩ (fun _ _ _ h => SqL.of (h.1 _ _ hA2)) (by rw [List.length_map]; omega) (fun _ => rfl) ?_ ?_⟩
    · rintro j x ys H' hx ⟨sH, ts, rfl, hts, htD⟩ hD R hR'
      obtain ⟨r, rfl, hr0⟩ := ref_at hx
      obtain ⟨ns, hns, hrow, hlen⟩ := paired_get hR2 hr0
      refine ⟨_, rfl, _, rfl, r, fl, ns, rfl, hrow.same sH, by omega, hg.1, fun H3 t s3 nt ht => ?_⟩
      have ntD : t ≠ D := fun e => by
        rw [e, hD] at nt
        cases nt
      refine hR' _ _ (s3 _ _ hD) ⟨same_new nD (sH.trans s3), ts ++ [t], by rw [List.map_append]; rfl, ?_, ?_⟩
      · rw [List.take_succ, hns]
        refine Paired.snoc (ToldAt.keep hts fun x hx u e => ?_) (by rw [upd_ne ntD]; exact ht)
        rw [upd_ne (htD x hx)]
        exact s3 _ _ e
      · intro x hx
        rcases List.mem_append.mp hx with h | h
        · exact htD x h
        · rw [List.mem_singleton.mp h]
          exact ntD
    · rintro H3 ys ⟨sH, ts, rfl, hts, htD⟩ hD hlen
      have ll : rs.length = nss.length := Paired.length hR2
      have ht2 : (List.map V.ref rs).length = nss.length := by rw [List.length_map, ll]
      rw [ht2, List.take_length] at hts
      refine ⟨D, _, rfl, .inl ⟨SqL.of hD, fun l nl => ?_⟩⟩
      have p3 : upd H3 l (.tup (ts.map V.ref)) p = some (.ins C dx [(("_field" : Str), V.int fl)]) := by
        rw [upd_ne (ne_of_none (sH _ _ p2) nl)]
        exact sH _ _ p2
      refine ⟨_, rfl, p, C, dx, _, rfl, p3, T.cl, T.nR, Nat.le_of_ble_eq_true rfl, ?_⟩
      have e2 : putF "_rows" (V.ref l) [(("_field" : Str), V.int fl)] = [(("_field" : Str), V.int fl), (("_rows" : Str), V.ref l)] := rfl
      rw [e2]
      have lp : l ≠ p := fun e => by
        rw [e, sH _ _ p2] at nl
        cases nl
      generalize hH4 : upd (upd H3 l (.tup (ts.map V.ref))) p (.ins C dx [(("_field" : Str), V.int fl), (("_rows" : Str), V.ref l)]) = H4
      have p4 : H4 p = some (.ins C dx [(("_field" : Str), V.int fl), (("_rows" : Str), V.ref l)]) := by rw [← hH4, upd_same]
      have l4 : H4 l = some (.tup (ts.map V.ref)) := by rw [← hH4, upd_ne lp, upd_same]
      have b4 : But p H3 H4 := by
        rw [← hH4]
        exact (But.same (same_upd nl)).trans But.upd
      have bb : But p H H4 := (((But.same s1).trans b2).trans (But.same sH)).trans b4
      have tp : ∀ t ∈ ts, t ≠ p := by
        intro t m e
        obtain ⟨ns, _, h⟩ := paired_mem hts m
        rw [e, sH _ _ p2] at h
        cases h
      have hts4 : ToldAt H4 fl ts nss := ToldAt.keep hts fun t m u e => b4 _ _ (tp t m) e
      have hA4 : H4 a = some (.lst (rs.map V.ref)) := bb _ _ (Ne.symm npa) hA
      have fin : ∀ i : Nat, i = (nss.headD []).length → Q .non (upd H4 p (.ins C dx (putF "_width" (V.int (i : Int)) [(("_field" : Str), V.int fl), (("_rows" : Str), V.ref l)]))) := by
        rintro i rfl
        refine k _ (bb.trans But.upd) ⟨dx, l, ts, upd_same, by rw [upd_ne lp]; exact l4, ToldAt.keep hts4 fun t m u e => ?_⟩
        rw [upd_ne (tp t m)]
        exact e
      refine ⟨_, rfl, a, _, rfl, hA4, _, _, rfl, rfl, _, rfl, ?_⟩
      have hR4 : RowsAt H4 wd rs nss := RowsAt.keep hR (fun r hr0 u e => bb _ _ (hrp r hr0) e)
      by_cases e : rs.length = 0
      · have e3 : decide ((0 : Int) < ((rs.map V.ref).length : Int)) = false := by
          rw [List.length_map, e]
          rfl
        rw [e3]
        have e4 : nss = [] := List.length_eq_zero_iff.mp (by omega)
        exact iteF ⟨_, rfl, p, C, dx, _, rfl, p4, T.cl, T.nW, Nat.le_of_ble_eq_true rfl, fin 0 (by rw [e4]; rfl)⟩
      · have e3 : decide ((0 : Int) < ((rs.map V.ref).length : Int)) = true := by
          rw [List.length_map]
          exact decide_eq_true (by omega)
        rw [e3]
        obtain ⟨r0, h00⟩ : ∃ r0, rs[0]? = some r0 := ⟨rs[0]'(by omega), List.getElem?_eq_getElem _⟩
        obtain ⟨n0, hn0, hrow0, hlen0⟩ := paired_get hR4 h00
        refine iteT ⟨_, rfl, a, 0, _, .ref r0, rfl, rfl, hA4, atI_nat (j := 0) (by rw [List.getElem?_map, h00]; rfl), r0, _, rfl, sq_or hrow0, _, rfl, p, C, dx, _, rfl, p4, T.cl, T.nW, Nat.le_of_ble_eq_true rfl, fin _ ?_⟩
        cases nss with
        | nil => cases hn0
        | cons x y =>
          cases hn0
          rw [List.length_map]
          rfl
end
/-! ### rows of a table in a list or a tuple -/
def spFault1 : Sp := fun vs H Q _ => ∃ (a : Addr) (wd : Nat) (rs : List Addr) (nss : List (List Int)), vs = [.ref a] ∧ Sq H a (rs.map V.ref) ∧ RowsAt H wd rs nss ∧ wd ≤ 12 ∧ rs.length ≤ 60 ∧ ∀ H', Same H H' → Q .non H'
theorem ix_sq {K : PySem.W.Frag} {H : Hp} {a : Addr} {xs : List V} {i : Int} {v : V} {Q : VK} (h : Sq H a xs) (e : atI xs i = some v) (q : Q v H) : rIx K (.ref a) (.int i) H Q := by
  rcases h with h | h
  · exact .inl ⟨a, xs, i, v, rfl, rfl, SqL.of h, e, q⟩
  · exact .inr (.inl ⟨a, xs, i, v, rfl, rfl, SqT.of h, e, q⟩)
section
variable {P : Program} {w : World} {K : PySem.W.Frag} {mg : Str → Option Value} {base : Heap}
theorem ok_fault1 {f fR fL : Addr} {fd fdR fdL : FuncData} {tk : Tok} (F : Fun K "rows_fault" "rows_fault" sFault f fd) (GR : FnOk P w K mg base CX0 2 fR fdR ["value"] spRow) (kR : PySem.W.keepIn K (.ref fR) = true) (bR : Binds K fdR ["value"] []) (gR : mg "is_row" = some (.ref fR))
    (FL : Fun K "is_list" "is_list" sList fL fdL) (bL : Binds K fdL ["value"] []) (gL : mg "is_list" = some (.ref fL)) (N : Nm mg) (gM : mg "MOST_ROWS" = some (.int 60 tk)) : FnOk P w K mg base CX0 3 f fd ["rows"] spFault1 := by
  have GL := ok_list (P := P) (w := w) (base := base) FL N
  refine F.ok scFa (fun vs H Q E h => ?_) (fun cdv A outer s H vs Q E hr h => ?_)
  · obtain ⟨a, wd, rs, nss, rfl, _⟩ := h
    rfl
  · obtain ⟨a, wd, rs, nss, rfl, hA, hR, hw, hn, k⟩ := h
    have nd := scFa.nd
    have hr1 : Room 1 _ := hr.mono (by decide)
    refine ⟨_, pss_cons (ps_if (pt_not (pt_val (pe_call GL hr1 rfl gL FL.kp bL .nil pass0 (pa_cons (pv 0) pa_nil)))) (pss_one (ps_ret pe_int)) pss_nil)
      (pss_cons (ps_for PassesOwn.never rfl (pi_enumv (by rfl) N.enum (pa_cons (pv 0) pa_nil)) (pg_tup rfl (pgs_cons (pg_name (i := 1) nd rfl (.inl rfl)) (pgs_cons (pg_name (i := 2) nd rfl (.inl rfl)) pgs_nil)))
        (pss_one (ps_if (PW.pt (pw_or (pt_not (pt_val (pe_call GR hr rfl gR kR bR .nil pass0 (pa_cons (pv 2) pa_nil)))) (pw_or1 (pt_cmpR op_ne (pe_callB call_len_seq (by rfl) N.len PySem.boot_len (pa_cons (pv 2) pa_nil))
          (pe_callB call_len_seq (by rfl) N.len PySem.boot_len (pa_cons (pe_ix ix_seq (pv 0) pe_int (fun _ _ => rfl)) pa_nil)) (nomark _))))) (pss_one (ps_ret (pv 1))) pss_nil)))
      (pss_one (ps_ret (pe_ifExp (pt_cmpR op_gt (pe_callB call_len_seq (by rfl) N.len PySem.boot_len (pa_cons (pv 0) pa_nil)) (pe_glob (v := .int 60) (by rfl) gM ⟨_, rfl⟩) (nomark _)) (pe_glob (v := .int 60) (by rfl) gM ⟨_, rfl⟩) pe_non)))), ?_⟩
    refine ⟨_, rfl, a, _, rfl, hA, fun H1 s1 => ⟨true, rfl, iteF ?_⟩⟩
    have hA1 := hA.same s1
    refine enumv rfl hA1 fun J G wk hG => for_it wk (fun i σ H' => ∃ u v, σ = [some (.ref a), u, v] ∧ Same H1 H') ⟨none, none, rfl, same_refl⟩ (fun i σ H' _ ⟨_, _, _, sH⟩ => hG _ sH) ?_ ?_
    · rintro i xv σ H' H'' hi ⟨u, v, rfl, sH⟩ ⟨T, x1, x, rfl, nT, rfl, e1, hx⟩
      cases e1
      obtain ⟨r, rfl, hr0⟩ := ref_at hx
      obtain ⟨ns, hns, hrow, hlen⟩ := paired_get hR hr0
      obtain ⟨r0, h00⟩ : ∃ r0, rs[0]? = some r0 := ⟨rs[0]'(by have := (List.getElem?_eq_some_iff.mp hr0).1; omega), List.getElem?_eq_getElem _⟩
      obtain ⟨n0, hn0, hrow0, hlen0⟩ := paired_get hR h00
      have sT := (s1.trans sH).trans (same_upd nT (o := .tup [.int (i : Nat), .ref r]))
      refine ⟨T, [.int (i : Nat), .ref r], rfl, .inl (.inl upd_same), rfl, .int (i : Nat), [.ref r], rfl, .ref r, [], rfl, rfl, ?_⟩
      refine ⟨_, rfl, r, ns, rfl, hrow.same sT, by omega, fun H2 s2 => ⟨true, rfl, iteF ?_⟩⟩
      have s3 := sT.trans s2
      refine ⟨_, rfl, r, _, rfl, sq_or (hrow.same s3), _, rfl, ix_sq (hA.same s3) (atI_nat (j := 0) (by rw [List.getElem?_map, h00]; rfl)) ?_⟩
      refine ⟨r0, _, rfl, sq_or (hrow0.same s3), rfl, _, rfl, ?_⟩
      have e : decide (V.int ((ns.map V.int).length : Int) = V.int ((n0.map V.int).length : Int)) = true := by
        rw [List.length_map, List.length_map, hlen, hlen0]
        exact decide_eq_true rfl
      rw [e]
      refine iteF ?_
      exact ⟨_, _, rfl, (sH.trans (same_upd nT)).trans s2⟩
    · rintro σ H' ⟨u, v, rfl, sH⟩
      refine ⟨_, rfl, a, _, rfl, sq_or (hA1.same sH), _, _, rfl, rfl, _, rfl, ?_⟩
      have e : decide ((60 : Int) < ((rs.map V.ref).length : Int)) = false := by
        rw [List.length_map]
        exact decide_eq_false (by omega)
      rw [e]
      exact iteF (k _ (s1.trans sH))
def spInit1 (C : Addr) : Sp := fun vs H Q _ => ∃ (p a dx : Addr) (f : Int) (wd : Nat) (rs : List Addr) (nss : List (List Int)), vs = [.ref p, .ref a, .int f] ∧ H p = some (.ins C dx []) ∧ p ≠ a ∧ Sq H a (rs.map V.ref) ∧
  RowsAt H wd rs nss ∧ (∀ r ∈ rs, r ≠ p) ∧ wd ≤ 12 ∧ rs.length ≤ 60 ∧ f ∈ fields ∧ ∀ H', But p H H' → TabAt C H' p f nss → Q .non H'
theorem ok_init1 {f fF fA fT C : Addr} {fd fdF fdA fdT : FuncData} (F : FunD K "__init__" "Rows.__init__" sInit f fd) (T : RTxt K mg C) (N : Nm mg)
    (GF : FnOk P w K mg base CX0 2 fF fdF ["value"] spField) (kF : PySem.W.keepIn K (.ref fF) = true) (bF : Binds K fdF ["value"] []) (gF : mg "is_field" = some (.ref fF))
    (GA : FnOk P w K mg base CX0 3 fA fdA ["rows"] spFault1) (kA : PySem.W.keepIn K (.ref fA) = true) (bA : Binds K fdA ["rows"] []) (gA : mg "rows_fault" = some (.ref fA))
    (GT : FnOk P w K mg base CX0 1 fT fdT ["row", "field"] spTold) (kT : PySem.W.keepIn K (.ref fT) = true) (bT : Binds K fdT ["row", "field"] []) (gT : mg "told" = some (.ref fT)) :
    FnOk P w K mg base CX0 4 f fd ["self", "rows", "field"] (spInit1 C) := by
  refine F.ok scIn (fun vs H Q E h => ?_) (fun cdv A outer s H vs Q E hr h => ?_)
  · obtain ⟨p, a, dx, f, wd, rs, nss, rfl, _⟩ := h
    rfl
  · obtain ⟨p, a, dx, fl, wd, rs, nss, rfl, hp, npa, hA, hR, hrp, hw, hn, hf, k⟩ := h
    have nd := scIn.nd
    have hr1 : Room 1 _ := hr.mono (by decide)
    have hr2 : Room 2 _ := hr.mono (by decide)
    have hg := fields_ge hf
    refine ⟨_, pss_cons (ps_if (pt_not (pt_val (pe_call GF hr2 rfl gF kF bF .nil pass0 (pa_cons (pv 2) pa_nil)))) pss_never pss_nil)
      (pss_cons (ps_set (i := 3) nd rfl (.inl rfl) (pe_call GA hr rfl gA kA bA .nil pass0 (pa_cons (pv 1) pa_nil)))
      (pss_cons (ps_if (pt_cmpR op_notN (pv 3) pe_non (nomark _)) pss_never pss_nil)
      (pss_cons (ps_fld (pv 0) (pe_callTy call_int1 (by rfl) N.int (by decide +kernel) (pa_cons (pv 2) pa_nil)) rfl)
      (pss_cons (ps_fld (pv 0) (pe_callTy call_tuple_of (by rfl) N.tuple (by decide +kernel) (pa_cons (pe_lc (own := [("row", 4)]) (g := gName 4) (tt := tYes) rfl nd (pi_seqv (pv 1))
        (blkOk_by (own := [("row", 4)]) (N := ["self", "rows", "field", "fault", "row"]) (sc := defScope sInit) (by decide +kernel)) (fun _ _ _ _ _ => pg_name (i := 4) nd rfl (Or.inl rfl)) (fun _ _ _ _ _ => pts_nil)
        (fun _ _ _ _ _ => pe_call GT hr1 rfl gT kT bT .nil pass0 (pa_cons (pv 4) (pa_cons (pv 2) pa_nil)))) pa_nil)) rfl)
      (pss_one (ps_fld (pv 0) (pe_ifExp (pt_cmpR op_gt (pe_callB call_len_seq (by rfl) N.len PySem.boot_len (pa_cons (pv 1) pa_nil)) pe_int (nomark _))
        (pe_callB call_len_seq (by rfl) N.len PySem.boot_len (pa_cons (pe_ix ix_seq (pv 1) pe_int (fun _ _ => rfl)) pa_nil)) pe_int) rfl)))))), ?_⟩
    refine ⟨_, rfl, fl, rfl, hf, true, rfl, iteF ?_⟩
    refine ⟨_, rfl, a, wd, rs, nss, rfl, hA, hR, hw, hn, fun H1 s1 => ?_⟩
    refine ⟨_, rfl, rfl, _, rfl, iteF ?_⟩
    have hp1 := s1 _ _ hp
    refine ⟨_, rfl, .inl ⟨fl, rfl, ?_⟩⟩
    refine ⟨_, rfl, p, C, dx, [], rfl, hp1, T.cl, T.nF, by decide, ?_⟩
    have e1 : putF "_field" (V.int fl) [] = [(("_field" : Str), V.int fl)] := rfl
    rw [e1]
    generalize hH2 : upd H1 p (.ins C dx [(("_field" : Str), V.int fl)]) = H2
    have p2 : H2 p = some (.ins C dx [(("_field" : Str), V.int fl)]) := by rw [← hH2, upd_same]
    have b2 : But p H1 H2 := by rw [← hH2]; exact But.upd
    have hA2 : Sq H2 a (rs.map V.ref) := (hA.same s1).elim (fun h => .inl (b2 _ _ (Ne.symm npa) h)) (fun h => .inr (b2 _ _ (Ne.symm npa) h))
    have hR2 : RowsAt H2 wd rs nss := RowsAt.keep hR (fun r hr0 u e => b2 _ _ (hrp r hr0) (s1 _ _ e))
    refine seqv rfl hA2 fun J G wk hG2 D nD => each_it wk (fun j ys H' => Same H2 H' ∧ ∃ ts : List Addr, ys = ts.map V.ref ∧ ToldAt H' fl ts (nss.take j) ∧ ∀ t ∈ ts, t ≠ D)
      ⟨same_upd nD, [], rfl, .nil, fun _ h => nomatch h⟩ (fun _ _ _ h => hG2 _ h.1) (by rw [List.length_map]; omega) (fun _ => rfl) ?_ ?_
    · rintro j x ys H' hx ⟨sH, ts, rfl, hts, htD⟩ hD R hR'
      obtain ⟨r, rfl, hr0⟩ := ref_at hx
      obtain ⟨ns, hns, hrow, hlen⟩ := paired_get hR2 hr0
      refine ⟨_, rfl, _, rfl, r, fl, ns, rfl, hrow.same sH, by omega, hg.1, fun H3 t s3 nt ht => ?_⟩
      have ntD : t ≠ D := fun e => by
        rw [e, hD] at nt
        cases nt
      refine hR' _ _ (s3 _ _ hD) ⟨same_new nD (sH.trans s3), ts ++ [t], by rw [List.map_append]; rfl, ?_, ?_⟩
      · rw [List.take_succ, hns]
        refine Paired.snoc (ToldAt.keep hts fun x hx u e => ?_) (by rw [upd_ne ntD]; exact ht)
        rw [upd_ne (htD x hx)]
        exact s3 _ _ e
      · intro x hx
        rcases List.mem_append.mp hx with h | h
        · exact htD x h
        · rw [List.mem_singleton.mp h]
          exact ntD
    · rintro H3 ys ⟨sH, ts, rfl, hts, htD⟩ hD hlen
      have ll : rs.length = nss.length := Paired.length hR2
      have ht2 : (List.map V.ref rs).length = nss.length := by rw [List.length_map, ll]
      rw [ht2, List.take_length] at hts
      refine ⟨D, _, rfl, .inl ⟨SqL.of hD, fun l nl => ?_⟩⟩
      have p3 : upd H3 l (.tup (ts.map V.ref)) p = some (.ins C dx [(("_field" : Str), V.int fl)]) := by
        rw [upd_ne (ne_of_none (sH _ _ p2) nl)]
        exact sH _ _ p2
      refine ⟨_, rfl, p, C, dx, _, rfl, p3, T.cl, T.nR, Nat.le_of_ble_eq_true rfl, ?_⟩
      have e2 : putF "_rows" (V.ref l) [(("_field" : Str), V.int fl)] = [(("_field" : Str), V.int fl), (("_rows" : Str), V.ref l)] := rfl
      rw [e2]
      have lp : l ≠ p := fun e => by
        rw [e, sH _ _ p2] at nl
        cases nl
      generalize hH4 : upd (upd H3 l (.tup (ts.map V.ref))) p (.ins C dx [(("_field" : Str), V.int fl), (("_rows" : Str), V.ref l)]) = H4
      have p4 : H4 p = some (.ins C dx [(("_field" : Str), V.int fl), (("_rows" : Str), V.ref l)]) := by rw [← hH4, upd_same]
      have l4 : H4 l = some (.tup (ts.map V.ref)) := by rw [← hH4, upd_ne lp, upd_same]
      have b4 : But p H3 H4 := by
        rw [← hH4]
        exact (But.same (same_upd nl)).trans But.upd
      have bb : But p H H4 := (((But.same s1).trans b2).trans (But.same sH)).trans b4
      have tp : ∀ t ∈ ts, t ≠ p := by
        intro t m e
        obtain ⟨ns, _, h⟩ := paired_mem hts m
        rw [e, sH _ _ p2] at h
        cases h
      have hts4 : ToldAt H4 fl ts nss := ToldAt.keep hts fun t m u e => b4 _ _ (tp t m) e
      have hA4 : Sq H4 a (rs.map V.ref) := hA.elim (fun h => .inl (bb _ _ (Ne.symm npa) h)) (fun h => .inr (bb _ _ (Ne.symm npa) h))
      have fin : ∀ i : Nat, i = (nss.headD []).length → Q .non (upd H4 p (.ins C dx (putF "_width" (V.int (i : Int)) [(("_field" : Str), V.int fl), (("_rows" : Str), V.ref l)]))) := by
        rintro i rfl
        refine k _ (bb.trans But.upd) ⟨dx, l, ts, upd_same, by rw [upd_ne lp]; exact l4, ToldAt.keep hts4 fun t m u e => ?_⟩
        rw [upd_ne (tp t m)]
        exact e
      refine ⟨_, rfl, a, _, rfl, sq_or hA4, _, _, rfl, rfl, _, rfl, ?_⟩
      have hR4 : RowsAt H4 wd rs nss := RowsAt.keep hR (fun r hr0 u e => bb _ _ (hrp r hr0) e)
      by_cases e : rs.length = 0
      · have e3 : decide ((0 : Int) < ((rs.map V.ref).length : Int)) = false := by
          rw [List.length_map, e]
          rfl
        rw [e3]
        have e4 : nss = [] := List.length_eq_zero_iff.mp (by omega)
        exact iteF ⟨_, rfl, p, C, dx, _, rfl, p4, T.cl, T.nW, Nat.le_of_ble_eq_true rfl, fin 0 (by rw [e4]; rfl)⟩
      · have e3 : decide ((0 : Int) < ((rs.map V.ref).length : Int)) = true := by
          rw [List.length_map]
          exact decide_eq_true (by omega)
        rw [e3]
        obtain ⟨r0, h00⟩ : ∃ r0, rs[0]? = some r0 := ⟨rs[0]'(by omega), List.getElem?_eq_getElem _⟩
        obtain ⟨n0, hn0, hrow0, hlen0⟩ := paired_get hR4 h00
        refine iteT ⟨_, rfl, ix_sq hA4 (atI_nat (j := 0) (by rw [List.getElem?_map, h00]; rfl)) ⟨r0, _, rfl, sq_or hrow0, _, rfl, p, C, dx, _, rfl, p4, T.cl, T.nW, Nat.le_of_ble_eq_true rfl, fin _ ?_⟩⟩
        cases nss with
        | nil => cases hn0
        | cons x y =>
          cases hn0
          rw [List.length_map]
          rfl
end
theorem PE.imp' {X : Cx} {e : Expr} {t t' : TE} (h : PE X e t) (k : ∀ σ H Q, t' σ H Q → t σ H Q) : PE X e t' := ⟨fun pins s σ H Q I q => h.run pins s σ H Q I (k σ H Q q)⟩
theorem PS.imp' {X : Cx} {e : Stmt} {t t' : TS} (h : PS X e t) (k : ∀ D σ H, t' D σ H → t D σ H) : PS X e t' := ⟨fun pins s σ H D I q => h.run pins s σ H D I (k D σ H q)⟩
theorem PSs.imp' {X : Cx} {e : List Stmt} {t t' : TS} (h : PSs X e t) (k : ∀ D σ H, t' D σ H → t D σ H) : PSs X e t' := ⟨fun pins s σ H D I q => h.run pins s σ H D I (k D σ H q)⟩
/-! ### checks, of whatever the law hands over -/
theorem call_isiK2 {X : Cx} {K : PySem.W.Frag} (h : X.K = K) : CallR X (.builtin "isinstance") (rIsi K) := by
  rw [← h]
  exact call_isi
/-- no list and no tuple -/
inductive Oth (H : Hp) : V → Prop where
  | non : Oth H .non
  | bl (b : Bool) : Oth H (.bl b)
  | int (i : Int) : Oth H (.int i)
  | str (x : Str) : Oth H (.str x)
  | dct {a : Addr} {kvs : List (Key × V)} (e : H a = some (.dK kvs)) : Oth H (.ref a)
/-- a value of any kind that is handed over -/
def Any (H : Hp) (x : V) : Prop := Oth H x ∨ ∃ a xs, x = .ref a ∧ Sq H a xs
def Wh : V → Bool
  | .int _ => true
  | _ => false
theorem Oth.same {H H' : Hp} {x : V} (h : Oth H x) (s : Same H H') : Oth H' x := by
  cases h with
  | non => exact .non
  | bl b => exact .bl b
  | int i => exact .int i
  | str x => exact .str x
  | dct e => exact .dct (s _ _ e)
theorem Any.same {H H' : Hp} {x : V} (h : Any H x) (s : Same H H') : Any H' x := by
  rcases h with h | ⟨a, xs, e, h⟩
  · exact .inl (h.same s)
  · exact .inr ⟨a, xs, e, h.same s⟩
theorem Any.sq {H : Hp} {a : Addr} {xs : List V} (h : Sq H a xs) : Any H (.ref a) := .inr ⟨a, xs, rfl, h⟩
/-- its type, one of a few -/
theorem oth_ty {K : PySem.W.Frag} {H : Hp} {x : V} (h : Oth H x) : ∃ t : String, TyX K H x (.type t) ∧ PySem.W.kitAny K (.type t) [.type "list", .type "tuple"] = some false ∧
    ((PySem.W.kitOne K (.type t) (.type "int") = some true ∧ PySem.W.kitOne K (.type t) (.type "bool") = some (!Wh x)) ∨ (PySem.W.kitOne K (.type t) (.type "int") = some false ∧ Wh x = false)) := by
  cases h with
  | non => exact ⟨_, .base .non, by kernel_rfl, .inr ⟨by kernel_rfl, rfl⟩⟩
  | bl b => exact ⟨_, .base (.bl b), by kernel_rfl, .inl ⟨by kernel_rfl, by kernel_rfl⟩⟩
  | int i => exact ⟨_, .base (.int i), by kernel_rfl, .inl ⟨by kernel_rfl, by kernel_rfl⟩⟩
  | str y => exact ⟨_, .base (.str y), by kernel_rfl, .inr ⟨by kernel_rfl, rfl⟩⟩
  | dct e => exact ⟨_, .base (.dK e), by kernel_rfl, .inr ⟨by kernel_rfl, rfl⟩⟩
theorem sq_ty {K : PySem.W.Frag} {H : Hp} {a : Addr} {xs : List V} (h : Sq H a xs) : ∃ t : String, TyX K H (.ref a) (.type t) ∧ PySem.W.kitAny K (.type t) [.type "list", .type "tuple"] = some true ∧ PySem.W.kitOne K (.type t) (.type "int") = some false := by
  rcases h with e | e
  · exact ⟨_, .base (.lst e), by kernel_rfl, by kernel_rfl⟩
  · exact ⟨_, .base (.tup e), by kernel_rfl, by kernel_rfl⟩
theorem any_ty {K : PySem.W.Frag} {H : Hp} {x : V} (h : Any H x) : ∃ t : String, TyX K H x (.type t) ∧
    ((PySem.W.kitOne K (.type t) (.type "int") = some true ∧ PySem.W.kitOne K (.type t) (.type "bool") = some (!Wh x)) ∨ (PySem.W.kitOne K (.type t) (.type "int") = some false ∧ Wh x = false)) := by
  rcases h with h | ⟨a, xs, rfl, h⟩
  · obtain ⟨t, h1, _, h3⟩ := oth_ty (K := K) h
    exact ⟨t, h1, h3⟩
  · obtain ⟨t, h1, _, h3⟩ := sq_ty (K := K) h
    exact ⟨t, h1, .inr ⟨h3, rfl⟩⟩
def spWholeA : Sp := fun vs H Q _ => ∃ x, vs = [x] ∧ Any H x ∧ Q (.bl (Wh x)) H
section
variable {P : Program} {w : World} {K : PySem.W.Frag} {mg : Str → Option Value} {base : Heap}
theorem ok_wholeA {f : Addr} {fd : FuncData} (F : Fun K "is_whole" "is_whole" sWhole f fd) (N : Nm mg) : FnOk P w K mg base CX0 1 f fd ["value"] spWholeA := by
  refine F.ok scWh (fun vs H Q E h => ?_) (fun cdv A outer s H vs Q E hr h => ?_)
  · obtain ⟨x, rfl, _⟩ := h
    rfl
  · obtain ⟨x, rfl, hx, k⟩ := h
    refine ⟨_, pss_one (ps_ret (pe_and (pe_callB call_isi (by rfl) N.isin (by decide +kernel) (pa_cons (pv 0) (pa_cons (pe_bltn (v := V.ty "int") (by rfl) N.int (by decide +kernel) rfl) pa_nil)))
      (pe_one (pe_not (pe_callB call_isi (by rfl) N.isin (by decide +kernel) (pa_cons (pv 0) (pa_cons (pe_bltn (v := V.ty "bool") (by rfl) N.bool (by decide +kernel) rfl) pa_nil))))))), ?_⟩
    obtain ⟨t, ty, h | ⟨h1, h2⟩⟩ := any_ty (K := K) hx
    · refine ⟨_, rfl, _, _, _, _, true, rfl, .ty _, ty, h.1, true, rfl, iteT ?_⟩
      refine ⟨_, rfl, _, _, _, _, !Wh x, rfl, .ty _, ty, h.2, !Wh x, rfl, ?_⟩
      rw [Bool.not_not]
      exact k
    · refine ⟨_, rfl, _, _, _, _, false, rfl, .ty _, ty, h1, false, rfl, iteF ?_⟩
      rw [← h2]
      exact k
end
/-! ### a row of a table; what its properties are; tables compared with anything -/
abbrev sIsInt : Stmt := top 11
abbrev sRowAt : Stmt := inClass (top 18) 5
abbrev sGetF : Stmt := inClass (top 18) 1
abbrev sGetW : Stmt := inClass (top 18) 2
abbrev sLen : Stmt := inClass (top 18) 3
abbrev sEq : Stmt := inClass (top 18) 4
def inR (x : V) (lo hi : Int) : Bool := match x with | .int i => decide (lo ≤ i) && decide (i ≤ hi) | _ => false
def spIntA : Sp := fun vs H Q _ => ∃ x lo hi, vs = [x, .int lo, .int hi] ∧ Any H x ∧ Q (.bl (inR x lo hi)) H
def spRowAt (C CN : Addr) : Sp := fun vs H Q E => ∃ (p : Addr) (x : V) (f : Int) (nss : List (List Int)), vs = [.ref p, x] ∧ TabAt C H p f nss ∧ Any H x ∧
  (∀ (i : Nat) (ns : List Int), x = .int i → nss[i]? = some ns → ∀ t, H t = some (.tup ((ns.map (tell f)).map V.int)) → Q (.ref t) H) ∧
  (inR x 0 ((nss.length : Int) - 1) = false → ∀ d H', Same H H' → H d = none → H' d = some (.xd [("row", x)]) → E (.ref CN) (some d) H')
def LenIs (C : Addr) : Addr → Hp → Nat → Prop := fun a H n => ∃ f nss, TabAt C H a f nss ∧ nss.length = n
def tellN (f : Int) (nss : List (List Int)) : List (List Int) := nss.map fun ns => ns.map (tell f)
def TupsAt (H : Hp) (ts : List Addr) (nss : List (List Int)) : Prop := Paired (fun t ns => H t = some (.tup (ns.map V.int))) ts nss
theorem ToldAt.tups {H : Hp} {f : Int} : ∀ {ts : List Addr} {nss : List (List Int)}, ToldAt H f ts nss → TupsAt H ts (tellN f nss)
  | _, _, .nil => .nil
  | _, _, .cons h t => .cons h (ToldAt.tups t)
structure RIs (K : PySem.W.Frag) (C : Addr) : Prop where
  cl : Cls K C
  ha : PySem.W.findIn K (.ref C) "__class__" = some (some (.builtin "object.__class__"))
  hn : PySem.W.specialIn K (.builtin "object.__class__") "__get__" = some (some (.builtin "getset_descriptor.__get__"))
  tk : PySem.W.takesIn K (.builtin "object.__class__") = some true
  hm : PySem.W.mroIn K C (.type "object") = some true
theorem RIs.ty {K : PySem.W.Frag} {C a dx : Addr} {H : Hp} {fs : List (Str × V)} (R : RIs K C) (h : H a = some (.ins C dx fs)) : TyX K H (.ref a) (.ref C) := .base (.ins h R.cl R.ha R.hn R.tk R.hm)
/-- the answer of a == y -/
def EqA (C : Addr) (a : Addr) (y : V) (H : Hp) (r : Bool) : Prop := ∃ b f nss, y = .ref b ∧ TabAt C H a f nss ∧ ((∃ g mss, TabAt C H b g mss ∧ r = (decide (f = g) && decide (tellN f nss = tellN g mss))) ∨ ((∃ ys, H b = some (.lst ys)) ∧ r = false))
section
variable {P : Program} {w : World} {K : PySem.W.Frag} {mg : Str → Option Value} {base : Heap}
theorem scII : FnScope ["value", "low", "high"] ["value", "low", "high"] (defScope sIsInt) := ⟨rfl, rfl, rfl, by decide +kernel, rfl, by decide +kernel, by decide +kernel⟩
theorem ok_intA {f fW : Addr} {fd fdW : FuncData} (F : Fun K "is_integer" "is_integer" sIsInt f fd) (GW : FnOk P w K mg base CX0 1 fW fdW ["value"] spWholeA) (kW : PySem.W.keepIn K (.ref fW) = true) (bW : Binds K fdW ["value"] []) (gW : mg "is_whole" = some (.ref fW)) :
    FnOk P w K mg base CX0 2 f fd ["value", "low", "high"] spIntA := by
  refine F.ok scII (fun vs H Q E h => ?_) (fun cdv A outer s H vs Q E hr h => ?_)
  · obtain ⟨x, lo, hi, rfl, _⟩ := h
    rfl
  · obtain ⟨x, lo, hi, rfl, hx, k⟩ := h
    refine ⟨_, pss_one (ps_ret (pe_and (pe_call GW hr rfl gW kW bW .nil pass0 (pa_cons (pv 0) pa_nil)) (pe_one (pe_chain op_le op_le (pv 1) (pv 0) (pv 2))))), ?_⟩
    refine ⟨_, rfl, x, rfl, hx, Wh x, rfl, ?_⟩
    cases x with
    | int i =>
      refine iteT ⟨_, rfl, _, rfl, _, _, rfl, rfl, _, rfl, ?_⟩
      have k : Q (.bl (decide (lo ≤ i) && decide (i ≤ hi))) H := k
      by_cases c : lo ≤ i
      · rw [decide_eq_true c] at k ⊢
        rw [Bool.true_and] at k
        exact iteT ⟨_, rfl, _, _, rfl, rfl, k⟩
      · rw [decide_eq_false c] at k ⊢
        exact iteF k
    | _ => exact iteF k
theorem scRA : FnScope ["self", "row"] ["self", "row"] (defScope sRowAt) := ⟨rfl, rfl, rfl, by decide +kernel, rfl, by decide +kernel, by decide +kernel⟩
theorem ok_rowat {f fI C CN fN : Addr} {fd fdI fdN : FuncData} (F : Fun K "row_at" "Rows.row_at" sRowAt f fd) (N : Nm mg) (T : RTxt K mg C) (MN : Made K P mg "NoRow" "row" CN fN fdN)
    (GI : FnOk P w K mg base CX0 2 fI fdI ["value", "low", "high"] spIntA) (kI : PySem.W.keepIn K (.ref fI) = true) (bI : Binds K fdI ["value", "low", "high"] []) (gI : mg "is_integer" = some (.ref fI)) : FnOk P w K mg base (L2.CX P w) 3 f fd ["self", "row"] (spRowAt C CN) := by
  refine F.okX scRA (fun vs H Q E h => ?_) (fun cdv A outer s H vs Q E hr h => ?_)
  · obtain ⟨p, x, fl, nss, rfl, _⟩ := h
    rfl
  · obtain ⟨p, x, fl, nss, rfl, ⟨dx, t, ts, hA, hT, hts⟩, hx, kY, kE⟩ := h
    have hr1 : Room 1 _ := hr.mono (by decide)
    refine ⟨_, pss_cons (ps_if (pt_not (pt_val (pe_call GI hr rfl gI kI bI .nil pass0 (pa_cons (pv 1) (pa_cons pe_int (pa_cons (pe_op op_sub (pe_callB lenT (by rfl) N.len PySem.boot_len (pa_cons (pe_fld (pv 0) rfl) pa_nil)) pe_int) pa_nil)))))) (pss_one (ps_raiseM MN hr1 rfl (takes_of rfl rfl rfl rfl) (by rfl) (pv 1))) pss_nil)
      (pss_one (ps_ret (pe_ix ixT (pe_fld (pv 0) rfl) (pv 1) (fun _ _ => rfl)))), ?_⟩
    have tl : ts.length = nss.length := Paired.length hts
    refine ⟨_, rfl, _, rfl, p, C, dx, _, _, rfl, hA, T.cl, T.nR, rfl, t, _, rfl, hT, _, _, rfl, rfl, x, 0, ((ts.map V.ref).length : Int) - 1, rfl, hx, inR x 0 (((ts.map V.ref).length : Int) - 1), rfl, ?_⟩
    rw [List.length_map, tl]
    cases hin : inR x 0 ((nss.length : Int) - 1) with
    | false => exact iteT ⟨_, rfl, raise_in MN.of fun d hd => kE hin d _ (same_upd hd) hd upd_same⟩
    | true =>
      refine iteF ?_
      obtain ⟨i, rfl⟩ : ∃ i, x = .int i := by
        cases x with
        | int i => exact ⟨i, rfl⟩
        | _ => cases hin
      have hin : (decide (0 ≤ i) && decide (i ≤ (nss.length : Int) - 1)) = true := hin
      rw [Bool.and_eq_true] at hin
      have h1 := of_decide_eq_true hin.1
      have h2 := of_decide_eq_true hin.2
      obtain ⟨n, rfl⟩ : ∃ n : Nat, i = n := ⟨i.toNat, by omega⟩
      have hn : n < ts.length := by omega
      have ht0 : ts[n]? = some ts[n] := List.getElem?_eq_getElem hn
      obtain ⟨ns, hns, htu⟩ := paired_get hts ht0
      exact ⟨_, rfl, p, C, dx, _, _, rfl, hA, T.cl, T.nR, rfl, _, rfl, t, (n : Int), _, _, rfl, rfl, hT, atI_nat (j := n) (by rw [List.getElem?_map, ht0]; rfl), kY n ns rfl hns _ htu⟩
theorem scLen : FnScope ["self"] ["self"] (defScope sLen) := ⟨rfl, rfl, rfl, by decide +kernel, rfl, by decide +kernel, by decide +kernel⟩
theorem ok_len {f C : Addr} {fd : FuncData} (F : Fun K "__len__" "Rows.__len__" sLen f fd) (N : Nm mg) (T : RTxt K mg C) : FnOk P w K mg base CX0 1 f fd ["self"] (spLen (LenIs C)) := by
  refine F.ok scLen (fun vs H Q E h => ?_) (fun cdv A outer s H vs Q E hr h => ?_)
  · obtain ⟨a, n, rfl, _⟩ := h
    rfl
  · obtain ⟨a, n, rfl, ⟨fl, nss, ⟨dx, t, ts, hA, hT, hts⟩, rfl⟩, k⟩ := h
    refine ⟨_, pss_one (ps_ret (pe_callB lenT (by rfl) N.len PySem.boot_len (pa_cons (pe_fld (pv 0) rfl) pa_nil))), ?_⟩
    refine ⟨_, rfl, a, C, dx, _, _, rfl, hA, T.cl, T.nR, rfl, t, _, rfl, hT, ?_⟩
    rw [List.length_map, Paired.length hts]
    exact k H same_refl
theorem scGF : FnScope ["self"] ["self"] (defScope sGetF) := ⟨rfl, rfl, rfl, by decide +kernel, rfl, by decide +kernel, by decide +kernel⟩
theorem scGW : FnScope ["self"] ["self"] (defScope sGetW) := ⟨rfl, rfl, rfl, by decide +kernel, rfl, by decide +kernel, by decide +kernel⟩
theorem ok_getF {f C : Addr} {fd : FuncData} (F : Fun K "field" "Rows.field" sGetF f fd) (T : RTxt K mg C) : FnOk P w K mg base CX0 1 f fd ["self"] (getSp C "_field") := by
  refine F.ok scGF (fun vs H Q E h => ?_) (fun cdv A outer s H vs Q E hr h => ?_)
  · obtain ⟨a, dx, fs, v, rfl, _⟩ := h
    rfl
  · obtain ⟨a, dx, fs, v, rfl, ha, hl, k⟩ := h
    exact ⟨_, pss_one (ps_ret (pe_fld (pv 0) rfl)), _, rfl, a, C, dx, fs, v, rfl, ha, T.cl, T.nF, hl, k⟩
theorem ok_getW {f C : Addr} {fd : FuncData} (F : Fun K "width" "Rows.width" sGetW f fd) (T : RTxt K mg C) : FnOk P w K mg base CX0 1 f fd ["self"] (getSp C "_width") := by
  refine F.ok scGW (fun vs H Q E h => ?_) (fun cdv A outer s H vs Q E hr h => ?_)
  · obtain ⟨a, dx, fs, v, rfl, _⟩ := h
    rfl
  · obtain ⟨a, dx, fs, v, rfl, ha, hl, k⟩ := h
    exact ⟨_, pss_one (ps_ret (pe_fld (pv 0) rfl)), _, rfl, a, C, dx, fs, v, rfl, ha, T.cl, T.nW, hl, k⟩
theorem scEq : FnScope ["self", "other"] ["self", "other"] (defScope sEq) := ⟨rfl, rfl, rfl, by decide +kernel, rfl, by decide +kernel, by decide +kernel⟩
theorem ok_eqA {f C : Addr} {fd : FuncData} (F : Fun K "__eq__" "Rows.__eq__" sEq f fd) (N : Nm mg) (T : RTxt K mg C) (R : RIs K C) (nl : PySem.W.kitOne K (.type "list") (.ref C) = some false) : FnOk P w K mg base CX0 1 f fd ["self", "other"] (spEqAny (EqA C)) := by
  refine F.ok scEq (fun vs H Q E h => ?_) (fun cdv A outer s H vs Q E hr h => ?_)
  · obtain ⟨a, y, r, rfl, _⟩ := h
    rfl
  · obtain ⟨a, y, r, rfl, ⟨b, fl, nss, rfl, ⟨dx, t, ts, hA, hT, hts⟩, hy⟩, k⟩ := h
    refine ⟨_, pss_one (ps_ret (pe_and (pe_callB call_isi (by rfl) N.isin (by decide +kernel) (pa_cons (pv 1) (pa_cons (pe_glob (v := V.ref C) (by rfl) T.mgC rfl) pa_nil)))
      (pe_and (pe_cmpR op_eq (pe_fld (pv 0) rfl) (pe_fld (pv 1) rfl) (nomark _)) (pe_one (pe_cmpR (op_eqD hr.units) (pe_fld (pv 0) rfl) (pe_fld (pv 1) rfl) (nomark _)))))), ?_⟩
    rcases hy with ⟨g, mss, ⟨dy, u, us, hB, hU, hus⟩, rfl⟩ | ⟨⟨ys, hB⟩, rfl⟩
    · refine ⟨_, rfl, _, _, _, _, true, rfl, .own C, R.ty hB, kitOne_same, true, rfl, iteT ?_⟩
      refine ⟨_, rfl, a, C, dx, _, _, rfl, hA, T.cl, T.nF, rfl, _, rfl, b, C, dy, _, _, rfl, hB, T.cl, T.nF, rfl, rfl, _, rfl, ?_⟩
      by_cases e : fl = g
      · rw [decide_eq_true (congrArg V.int e)]
        refine iteT ⟨_, rfl, a, C, dx, _, _, rfl, hA, T.cl, T.nR, rfl, _, rfl, b, C, dy, _, _, rfl, hB, T.cl, T.nR, rfl, tabD (tellN fl nss), tabD (tellN g mss), dp_tab hT hts.tups, dp_tab hU hus.tups, shaped_tab _, shaped_tab _, ?_⟩
        rw [eqv_tab]
        have q := k H same_refl
        rw [decide_eq_true e, Bool.true_and] at q
        exact q
      · rw [decide_eq_false fun h => e (V.int.inj h)]
        have q := k H same_refl
        rw [decide_eq_false e, Bool.false_and] at q
        exact iteF q
    · exact ⟨_, rfl, _, _, _, _, false, rfl, .own C, .base (.lst hB), nl, false, rfl, iteF (k H same_refl)⟩
end
/-! ### a job is tried -/
def goodD (d : PyData) : Bool := d.showable && (!d.hasDict && (decide (d.depth ≤ 8) && (decide (d.shown.length ≤ 1000) && (PyData.strOk d.shown && (match d with | .int i => decide (i.natAbs.log2 < 1920) | _ => true)))))
theorem rep_good {K : PySem.W.Frag} {H : Hp} {x : V} {d : PyData} (h : Dp K H x d) (g : goodD d = true) : RepD K x H d := by
  unfold goodD at g
  simp only [Bool.and_eq_true, Bool.not_eq_true', decide_eq_true_eq] at g
  obtain ⟨g1, g2, g3, g4, _, g6⟩ := g
  refine ⟨h, g1, g2, g3, g4, fun i e => ?_⟩
  subst e
  exact of_decide_eq_true g6
theorem good_str {d : PyData} (g : goodD d = true) : PyData.strOk d.shown = true := by
  unfold goodD at g
  simp only [Bool.and_eq_true] at g
  exact g.2.2.2.2.1
theorem good_ints : ((List.range 201).all fun n => goodD (.int ((n : Int) - 100))) = true := by decide +kernel
theorem good_int {i : Int} (h : -100 ≤ i) (k : i ≤ 100) : goodD (.int i) = true := by
  have := List.all_eq_true.mp good_ints (i + 100).toNat (List.mem_range.mpr (by omega))
  have e : (((i + 100).toNat : Nat) : Int) - 100 = i := by omega
  rw [e] at this
  exact this

abbrev sTried : Stmt := top 25
abbrev nsTd : List Str := ["_law_job", "_law_found", "e"]
theorem scTd : FnScope nsTd ["_law_job"] (defScope sTried) := ⟨rfl, rfl, rfl, by decide +kernel, rfl, by decide +kernel, by decide +kernel⟩
theorem call_reprK {X : Cx} {K : PySem.W.Frag} (h : X.K = K) (none : X.A.guards = some []) (hu : X.A.units + 64 < cLine) : CallR X (.builtin "repr") (rRepr K) := by
  rw [← h]
  exact call_reprR none hu
/-- the slots are as many as the names -/
theorem takes_len {X : Cx} {W : WX} (tk : Takes X W) : Takes X (fun cls d σ H => σ.length = X.N.length → W cls d σ H) := by
  rintro u s' ⟨a, B, sI, pins, σ, H, cls, d, rfl, I, nb, up, sky, na, os, ag, w⟩
  exact tk _ _ ⟨a, B, sI, pins, σ, H, cls, d, rfl, I, nb, up, sky, na, os, ag, w I.len⟩
/-- what is wished of the exception -/
def ERow (K : PySem.W.Frag) (CN : Addr) (Q : VK) : XK := fun cls d H => cls = .ref CN ∧ ∃ (dd : Addr) (v : V) (dta : PyData), d = some dd ∧ H dd = some (.xd [("row", v)]) ∧ RepD K v H dta ∧ ∀ p, H p = none → Q (.ref p) (upd H p (.tup [.str "row", .str dta.shown]))
def TTry (K : PySem.W.Frag) (CN : Addr) : (XK → Hp → VK → Prop) → Hp → VK → Prop := fun tl H Q => ∀ t0, H t0 = none → tl (ERow K CN Q) (upd H t0 (.tup [.str "none", .str ""]))
  (fun v H2 => [V.str "told", v].length ≤ sizeLine ∧ ∀ p, H2 p = none → ∃ v', (some (some (V.ref p)) : Option (Option V)) = some (some v') ∧ Q v' (upd H2 p (.tup [V.str "told", v])))
section
variable {X : Cx}
theorem tried_gives {g CN fN : Addr} {fdN : FuncData} {cdg : Value} {q : Str} (MN : Made X.K X.prog X.mg "NoRow" "row" CN fN fdN) (zr : X.mg "repr" = none) (xN : PySem.W.exmOne X.K (.ref CN) (.ref CN) = some true) (gd : X.A.guards = some []) (hu : X.A.units + 100 < cLine) :
    LamX.GivesTo X nsTd "_law_tried" (defScope sTried) g cdg (defBody sTried) "_law_job" q (TTry X.K CN) := by
  intro f c' s H Q tl act hc h
  have nd := scTd.nd
  have un : (cxOf C8.CX0 X.prog X.w X.K X.mg X.base nsTd "_law_tried" (defScope sTried) g cdg X.A X.stack s H C8.E0).nox.A.units + 64 < cLine := by
    show X.A.units + 3 + 64 < cLine
    omega
  refine ⟨_, pss_cons (ps_set (i := 1) nd rfl (.inl rfl) (pe_tup (pa_cons pe_str (pa_cons pe_str pa_nil))))
    (pss_cons (ps_try_as (X := (cxOf C8.CX0 X.prog X.w X.K X.mg X.base nsTd "_law_tried" (defScope sTried) g cdg X.A X.stack s H C8.E0).nox) (i := 2) (c := .ref CN)
      (tb := fun W D σ H' => ∃ Ech : XK, (∀ cls d σ' H2, Ech cls d H2 → σ'.length = 3 → W cls d σ' H2) ∧ σ[0]? = some (some (.ref f)) ∧ H' c' = some (LamX.CodeO c' q) ∧
        tl Ech H' (fun v H2 => [V.str "told", v].length ≤ sizeLine ∧ ∀ p, H2 p = none → D.nx (σ.set 1 (some (.ref p))) (upd H2 p (.tup [V.str "told", v]))))
      rfl rfl nd rfl rfl ⟨rfl, by decide, .inl MN.at_⟩ takes0 (fun W pn xe tk _ => ?body)
      (fun a oe cls d pn hz hf => pss_one (ps_set (i := 1) nd rfl (.inl rfl) (pe_tup (pa_cons pe_str (pa_cons (pe_callB (call_reprK (K := X.K) rfl gd un) (id := "repr") (by rfl) zr (by decide +kernel) (pa_cons (pe_xf MN.xf MN.of.nof hz hf (pv 2)) pa_nil)) pa_nil))))))
    (pss_one (ps_ret (pv 1)))), ?_⟩
  case body =>
    refine ⟨fun pins s' σ H' D I want => ?_⟩
    obtain ⟨Ech, hW, h1, h2, h3⟩ := want
    have call := fun p1 p2 => act (fun cls d σ H => σ.length = 3 → W cls d σ H) pn xe Ech p1 p2 (takes_len tk) hW
    exact (pss_one (ps_set (i := 1) nd rfl (.inl rfl) (pe_tup (pa_cons pe_str (pa_cons (call _ _) pa_nil))))).run pins s' σ H' D I ⟨h1, h2, h3⟩
  refine ⟨Nat.le_of_ble_eq_true rfl, fun t0 n0 => ?_⟩
  have hc2 : upd H t0 (.tup [V.str "none", V.str ""]) c' = some (LamX.CodeO c' q) := same_upd n0 _ _ hc
  refine ⟨ERow X.K CN Q, ?_, rfl, hc2, h t0 n0⟩
  rintro cls d σ' H2 ⟨rfl, dd, v, dta, rfl, hd, hR, hq⟩ hl
  refine ⟨true, xN, fun _ a _ => ?_, fun z => nomatch z⟩
  match σ', hl with
  | [s0, s1, s2], _ =>
    exact ⟨_, rfl, rfl, rfl, dd, _, _, rfl, hd, rfl, v, dta, rfl, hR, Nat.le_of_ble_eq_true rfl, fun p np => ⟨_, rfl, hq p np⟩⟩
end
theorem call_list_ofK {X : Cx} {K : PySem.W.Frag} (h : X.K = K) : CallR X (.type "list") (fun xs H Q => ∃ p ys, xs = [.ref p] ∧ (SqL K H p ys ∨ SqT K H p ys) ∧ ∀ l, H l = none → Q (.ref l) (upd H l (.lst ys))) := by
  rw [← h]
  exact call_list_of
theorem call_tuple_ofK {X : Cx} {K : PySem.W.Frag} (h : X.K = K) : CallR X (.type "tuple") (fun xs H Q => ∃ p ys, xs = [.ref p] ∧ ((SqL K H p ys ∧ ∀ l, H l = none → Q (.ref l) (upd H l (.tup ys))) ∨ (SqT K H p ys ∧ Q (.ref p) H))) := by
  rw [← h]
  exact call_tuple_of
/-! ### answers compared -/
def ansD : V → PyData
  | .str s => .str s
  | .int i => .int i
  | _ => .none
/-- an answer: a word and a text, or a word and an int -/
def IsAns (vs : List V) : Prop := ∃ a : Str, PyData.strOk a = true ∧ ((∃ s, vs = [.str a, .str s] ∧ PyData.strOk s = true) ∨ ∃ i, vs = [.str a, .int i])
theorem ans_lay {vs : List V} (h : IsAns vs) : (PyData.tuple (vs.map ansD)).canLay0 = true := by
  obtain ⟨a, ha, ⟨s, rfl, hs⟩ | ⟨i, rfl⟩⟩ := h
  · have e : PyData.canLayAll0 [PyData.str a, PyData.str s] = true := by
      rw [PyData.canLayAll0, PyData.canLayAll0, PyData.canLayAll0, PyData.canLay0, PyData.canLay0, hs, ha]
      rfl
    exact e
  · have e : PyData.canLayAll0 [PyData.str a, PyData.int i] = true := by
      have h2 : (PyData.int i).canLay0 = true := rfl
      rw [PyData.canLayAll0, PyData.canLayAll0, PyData.canLayAll0, h2, PyData.canLay0, ha]
      rfl
    exact e
theorem ans_shaped {vs : List V} (h : IsAns vs) : SeqAt.shaped (PyData.tuple (vs.map ansD)) = true := by
  unfold SeqAt.shaped
  rw [Bool.and_eq_true]
  refine ⟨ans_lay h, decide_eq_true ?_⟩
  obtain ⟨a, ha, ⟨s, rfl, hs⟩ | ⟨i, rfl⟩⟩ := h
  · simp only [List.map_cons, List.map_nil, ansD, PyData.depth, PyData.depthAll]
    omega
  · simp only [List.map_cons, List.map_nil, ansD, PyData.depth, PyData.depthAll]
    omega
theorem ans_dp {K : PySem.W.Frag} {H : Hp} {p : Addr} {vs : List V} (h : IsAns vs) (e : H p = some (.tup vs)) : Dp K H (.ref p) (PyData.tuple (vs.map ansD)) := by
  obtain ⟨a, ha, ⟨s, rfl, hs⟩ | ⟨i, rfl⟩⟩ := h
  · exact .tup (SqT.of e) (.cons (.str _) (.cons (.str _) .nil))
  · exact .tup (SqT.of e) (.cons (.str _) (.cons (.int _) .nil))
/-- two of the same answer, not unequal; equal -/
theorem ans_ne {K : PySem.W.Frag} {H : Hp} {p q : Addr} {vs : List V} {R : VK} (h : IsAns vs) (hp : H p = some (.tup vs)) (hq : H q = some (.tup vs)) (k : R (.bl false) H) : rNeD K (.ref p) (.ref q) H R := by
  refine ⟨_, _, ans_dp h hp, ans_dp h hq, ans_shaped h, ans_shaped h, ?_⟩
  rw [SeqAt.eqv_refl _ (ans_lay h)]
  exact k
theorem ans_eq {K : PySem.W.Frag} {H : Hp} {p q : Addr} {vs : List V} {R : VK} (h : IsAns vs) (hp : H p = some (.tup vs)) (hq : H q = some (.tup vs)) (k : R (.bl true) H) : rEqD K (.ref p) (.ref q) H R := by
  refine ⟨_, _, ans_dp h hp, ans_dp h hq, ans_shaped h, ans_shaped h, ?_⟩
  rw [SeqAt.eqv_refl _ (ans_lay h)]
  exact k
theorem each_range {D : Addr} {i : Nat} {vs : List Nat} {te : TE} {σ : L2.St} {H1 : Hp} {Qd : Hp → Prop} {lo : Int} {n : Nat} (I : Nat → List V → Hp → Prop) (h0 : I 0 [] (upd H1 D (.lst []))) (sz : n ≤ 1000) (hw : ∀ x, wipe ((wipe σ vs).set i (some x)) vs = wipe σ vs)
    (hs : ∀ j ys H, j < n → I j ys H → H D = some (.lst ys) → ∀ R : VK, (∀ y H4, H4 D = some (.lst ys) → I (j + 1) (ys ++ [y]) (upd H4 D (.lst (ys ++ [y]))) → R y H4) → te ((wipe σ vs).set i (some (.int (lo + j)))) H R)
    (hd : ∀ H ys, I n ys H → H D = some (.lst ys) → ys.length = n → Qd H) :
    ∃ W : Nat → Nat → Hp → Prop, (∃ m, W 0 m (upd H1 D (.lst []))) ∧ ∀ i0 m H, W i0 m H →
      ((Itr lo n).stop i0 H ∧ Qd H) ∨ ((Itr lo n).go i0 H ∧ ∃ Nx : Hp → Prop, (∀ H', Nx H' → ∃ m', m' < m ∧ W (i0 + 1) m' H') ∧ ∀ x H', (Itr lo n).yld i0 H x H' → gName i x (wipe σ vs) H' fun σ2 H2 => wipe σ2 vs = wipe σ vs ∧ tYes σ2 H2 fun b H3 =>
        if b = true then te σ2 H3 fun y H4 => ∃ acc, H4 D = some (.lst acc) ∧ acc.length < sizeLine ∧ Nx (upd H4 D (.lst (acc ++ [y]))) else Nx H3) := by
  refine lc_range (fun j H => ∃ ys, I j ys H ∧ H D = some (.lst ys) ∧ ys.length = j) ⟨[], h0, upd_same, rfl⟩ ?_ ?_
  · rintro j H hx ⟨ys, hj, e, g⟩
    refine ⟨hw _, ?_⟩
    dsimp only [tYes]
    rw [if_pos rfl]
    refine hs j ys H hx hj e _ fun y H4 e4 h4 => ⟨ys, e4, ?_, ys ++ [y], h4, upd_same, by rw [List.length_append, g]; rfl⟩
    exact Nat.lt_of_lt_of_le (by omega : ys.length < 1001) (by decide)
  · rintro H ⟨ys, hj, e, g⟩
    exact hd H ys hj e g
theorem any_non {H : Hp} : Any H .non := .inl .non
theorem any_bl {H : Hp} {b : Bool} : Any H (.bl b) := .inl (.bl b)
theorem any_int {H : Hp} {i : Int} : Any H (.int i) := .inl (.int i)
theorem any_str {H : Hp} {x : Str} : Any H (.str x) := .inl (.str x)
/-! ### the law's drawn fields and rows -/
theorem Paired.keepMem {α β : Type} {F G : α → β → Prop} : ∀ {xs : List α} {ys : List β}, Paired F xs ys → (∀ x ∈ xs, ∀ y, F x y → G x y) → Paired G xs ys
  | _, _, .nil, _ => .nil
  | _, _, .cons r t, h => .cons (h _ (.head _) _ r) (Paired.keepMem t fun x m => h x (.tail _ m))
abbrev sLField : Stmt := top 23
abbrev sLRows : Stmt := top 24
def spLField : Sp := fun vs H Q _ => ∃ (p : Addr) (o : HO) (n : Nat), vs = [.ref p] ∧ H p = some o ∧ SrcL n o ∧ n ≤ 100000 ∧
  ∀ H' f o', But p H H' → H' p = some o' → SrcL (n + 1) o' → f ∈ fields → Q (.int f) H'
/-- rows at addresses: lists of ints -/
def LRows (H : Hp) (wd : Nat) (B : Nat) (rs : List Addr) (nss : List (List Int)) : Prop := Paired (fun r ns => H r = some (.lst (ns.map V.int)) ∧ ns.length = wd ∧ ∀ i ∈ ns, i.natAbs ≤ B) rs nss
def spLRows : Sp := fun vs H Q _ => ∃ (p : Addr) (o : HO) (n wd m : Nat), vs = [.ref p, .int (wd : Int), .int (m : Int)] ∧ H p = some o ∧ SrcL n o ∧ n ≤ 50000 ∧ wd ≤ 12 ∧ m ≤ 60 ∧
  ∀ H' q rs nss o', But p H H' → H' p = some o' → SrcL (n + 40 * m) o' → H' q = some (.lst (rs.map V.ref)) → LRows H' wd (2 * 3 ^ m) rs nss → rs.length = m → H q = none → q ≠ p → (∀ r ∈ rs, H r = none ∧ r ≠ p ∧ r ≠ q) → Q (.ref q) H'
section
variable {P : Program} {w : World} {K : PySem.W.Frag} {mg : Str → Option Value} {base : Heap}
theorem scLF : FnScope ["_law_source_here"] ["_law_source_here"] (defScope sLField) := ⟨rfl, rfl, rfl, by decide +kernel, rfl, by decide +kernel, by decide +kernel⟩
theorem ok_lfield {f fD : Addr} {fd fdD : FuncData} (F : Fun K "_law_field" "_law_field" sLField f fd) (GD : FnOk P w K mg base CX0 1 fD fdD ["_law_source_here", "_law_many"] spDraw) (kD : PySem.W.keepIn K (.ref fD) = true)
    (bD : Binds K fdD ["_law_source_here", "_law_many"] []) (gD : mg "_law_draw" = some (.ref fD)) : FnOk P w K mg base CX0 2 f fd ["_law_source_here"] spLField := by
  refine F.ok scLF (fun vs H Q E h => ?_) (fun cdv A outer s H vs Q E hr h => ?_)
  · obtain ⟨p, o, n, rfl, _⟩ := h
    rfl
  · obtain ⟨p, o, n, rfl, hp, ho, hn, k⟩ := h
    refine ⟨_, pss_one (ps_ret (pe_ix ixL (pe_lst (pa_cons pe_int (pa_cons pe_int (pa_cons pe_int (pa_cons pe_int (pa_cons pe_int (pa_cons pe_int (pa_cons pe_int (pa_cons pe_int (pa_cons pe_int (pa_cons pe_int pa_nil)))))))))))
      (pe_call GD hr rfl gD kD bD .nil pass0 (pa_cons (pv 0) (pa_cons pe_int pa_nil))) (fun _ _ => rfl))), ?_⟩
    refine ⟨Nat.le_of_ble_eq_true rfl, fun l hl => ?_⟩
    have nlp : l ≠ p := fun e => by
      rw [e, hp] at hl
      cases hl
    refine ⟨_, rfl, p, o, n, 10, rfl, by rw [upd_ne (Ne.symm nlp)]; exact hp, ho, hn, by decide, by decide, fun r o' r0 r1 ho' => ?_⟩
    have key : ∀ j : Nat, j < 10 → ∃ f ∈ fields, ([0, 0, 0, 2, 2, 3, 5, 7, 11, 13] : List Int)[j]? = some f := by decide
    obtain ⟨j, rfl⟩ : ∃ j : Nat, r = j := ⟨r.toNat, by omega⟩
    obtain ⟨f, hf, hj⟩ := key j (by omega)
    have l3 : upd (upd H l (.lst (([0, 0, 0, 2, 2, 3, 5, 7, 11, 13] : List Int).map V.int))) p o' l = some (.lst (([0, 0, 0, 2, 2, 3, 5, 7, 11, 13] : List Int).map V.int)) := by
      rw [upd_ne nlp, upd_same]
    refine ⟨l, j, _, V.int f, rfl, rfl, l3, atI_nat (by rw [List.getElem?_map, hj]; rfl), k _ f o' (fun b u nb e => ?_) upd_same ho' hf⟩
    rw [upd_ne nb, upd_ne (ne_of_none e hl)]
    exact e
theorem scLR : FnScope ["_law_source_here", "_law_width", "_law_many", "_law_found", "_law_k", "_law_way", "_law_row", "_law_times", "_law_place", "_law_number"] ["_law_source_here", "_law_width", "_law_many"] (defScope sLRows) := ⟨rfl, rfl, rfl, by decide +kernel, rfl, by decide +kernel, by decide +kernel⟩
abbrev nsLR : List Str := ["_law_source_here", "_law_width", "_law_many", "_law_found", "_law_k", "_law_way", "_law_row", "_law_times", "_law_place", "_law_number"]
theorem ok_lrows {f fD fP : Addr} {fd fdD fdP : FuncData} (F : Fun K "_law_rows" "_law_rows" sLRows f fd) (N : Nm mg) (GD : FnOk P w K mg base CX0 1 fD fdD ["_law_source_here", "_law_many"] spDraw) (kD : PySem.W.keepIn K (.ref fD) = true)
    (bD : Binds K fdD ["_law_source_here", "_law_many"] []) (gD : mg "_law_draw" = some (.ref fD)) (GP : FnOk P w K mg base CX0 2 fP fdP ["_law_source_here", "_law_things"] (spPick K)) (kP : PySem.W.keepIn K (.ref fP) = true)
    (bP : Binds K fdP ["_law_source_here", "_law_things"] []) (gP : mg "_law_pick" = some (.ref fP)) : FnOk P w K mg base CX0 3 f fd ["_law_source_here", "_law_width", "_law_many"] spLRows := by
  refine F.ok scLR (fun vs H Q E h => ?_) (fun cdv A outer s H vs Q E hr h => ?_)
  · obtain ⟨p, o, n, wd, m, rfl, _⟩ := h
    rfl
  · obtain ⟨p, o, n, wd, m, rfl, hp, ho, hn, hw, hm, k⟩ := h
    have nd := scLR.nd
    have hr1 : Room 1 _ := hr.mono (by decide)
    refine ⟨_, pss_cons (ps_set (i := 3) nd rfl (.inl rfl) (pe_lst pa_nil))
      (pss_cons (ps_for PassesOwn.never rfl (pi_range1 (by rfl) N.range (pa_cons (pv 2) pa_nil)) (pg_name (i := 4) nd rfl (.inl rfl))
        (pss_cons (ps_set (i := 5) nd rfl (.inl rfl) (pe_call GD hr1 rfl gD kD bD .nil pass0 (pa_cons (pv 0) (pa_cons pe_int pa_nil))))
        (pss_cons (ps_setLc (i := 6) (own := [("_law_place", 8)]) (g := gName 8) (tt := tYes) rfl nd rfl rfl (sw_true rfl rfl rfl (by decide +kernel)) (pi_range1 (by rfl) N.range (pa_cons (pv 1) pa_nil))
            (blkOk_by (own := [("_law_place", 8)]) (N := nsLR) (sc := defScope sLRows) (by decide +kernel)) (fun _ _ _ _ _ => pg_name (i := 8) nd rfl (Or.inl rfl)) (fun _ _ _ _ _ => pts_nil)
            (fun _ _ _ _ _ => pe_op op_sub (pe_call GD hr1 rfl gD kD bD .nil pass0 (pa_cons (pv 0) (pa_cons pe_int pa_nil))) pe_int))
        (pss_cons (ps_if (PW.pt (pw_and (pt_cmpR op_eq (pv 5) pe_int (nomark _)) (pw_and1 (pt_cmpR (op_neD hr.units) (pv 3) (pe_lst pa_nil) (nomark _)))))
            (pss_one (ps_set (i := 6) nd rfl (.inl rfl) (pe_callTy call_list_of (by rfl) N.list (by decide +kernel) (pa_cons (pe_call GP hr rfl gP kP bP .nil pass0 (pa_cons (pv 0) (pa_cons (pv 3) pa_nil))) pa_nil))))
            (pss_one (ps_if (PW.pt (pw_and (pt_cmpR op_eq (pv 5) pe_int (nomark _)) (pw_and1 (pt_cmpR (op_neD hr.units) (pv 3) (pe_lst pa_nil) (nomark _)))))
              (pss_cons (ps_set (i := 7) nd rfl (.inr rfl) (pe_op op_add pe_int (pe_call GD hr1 rfl gD kD bD .nil pass0 (pa_cons (pv 0) (pa_cons pe_int pa_nil)))))
                (pss_one (ps_setLc (i := 6) (own := [("_law_number", 9)]) (g := gName 9) (tt := tYes) rfl nd rfl rfl (sw_true rfl rfl rfl (by decide +kernel)) (pi_list (pe_call GP hr rfl gP kP bP .nil pass0 (pa_cons (pv 0) (pa_cons (pv 3) pa_nil))))
                  (blkOk_by (own := [("_law_number", 9)]) (N := nsLR) (sc := defScope sLRows) (by decide +kernel)) (fun _ _ _ _ _ => pg_name (i := 9) nd rfl (Or.inl rfl)) (fun _ _ _ _ _ => pts_nil)
                  (fun _ _ _ _ _ => pe_op op_mul (pv 7) (pv 9)))))
              (pss_one (ps_if (pt_cmpR op_eq (pv 5) pe_int (nomark _))
                (pss_one (ps_setLc (i := 6) (own := [("_law_place", 8)]) (g := gName 8) (tt := tYes) rfl nd rfl rfl (sw_true rfl rfl rfl (by decide +kernel)) (pi_range1 (by rfl) N.range (pa_cons (pv 1) pa_nil))
                  (blkOk_by (own := [("_law_place", 8)]) (N := nsLR) (sc := defScope sLRows) (by decide +kernel)) (fun _ _ _ _ _ => pg_name (i := 8) nd rfl (Or.inl rfl)) (fun _ _ _ _ _ => pts_nil)
                  (fun _ _ _ _ _ => pe_ix ixL (pe_lst (pa_cons pe_int (pa_cons pe_int (pa_cons pe_int pa_nil)))) (pe_call GD hr1 rfl gD kD bD .nil pass0 (pa_cons (pv 0) (pa_cons pe_int pa_nil))) (fun _ _ => rfl))))
                pss_nil)))))
        (pss_one (ps_expr (pe_bm PySem.F.plainAttrs_list PySem.F.slot_list_append PySem.F.type_list_append mt_append (pv 3) (pa_cons (pv 6) pa_nil))))))))
      (pss_one (ps_ret (pv 3)))), ?_⟩
    refine ⟨Nat.zero_le _, fun q hq => ?_⟩
    have nqp : q ≠ p := fun e => by
      rw [e, hp] at hq
      cases hq
    have s0 : Same H (upd H q (.lst [])) := same_upd hq
    refine ⟨_, rfl, (m : Int), rfl, by omega, by omega, for_range (lo := 0) (n := m) (fun i σ G => ∃ (c4 c5 c6 c7 c8 c9 : Option V) (o' : HO) (rs : List Addr) (nss : List (List Int)),
        σ = [some (.ref p), some (.int (wd : Int)), some (.int (m : Int)), some (.ref q), c4, c5, c6, c7, c8, c9] ∧ G p = some o' ∧ SrcL (n + 40 * i) o' ∧ But p H G ∧ G q = some (.lst (rs.map V.ref)) ∧
        LRows G wd (2 * 3 ^ i) rs nss ∧ rs.length = i ∧ ∀ r ∈ rs, H r = none ∧ r ≠ p ∧ r ≠ q)
      ⟨none, none, none, none, none, none, o, [], [], rfl, s0 _ _ hp, ho, But.same s0, upd_same, .nil, rfl, fun _ h => nomatch h⟩ ?_ ?_⟩
    · rintro i σ G hi ⟨c4, c5, c6, c7, c8, c9, o1, rs, nss, rfl, hG, ho1, bG, hGq, hrs, hlen, hfr⟩
      have p3 : 2 * 3 ^ i ≤ 2 * 3 ^ (i + 1) := by
        rw [Nat.pow_succ]
        omega
      have fin : ∀ (G' : Hp) (D' : Addr) (ns : List Int) (o2 : HO) (c4 c5 c7 c8 c9 : Option V), But p G G' → G' p = some o2 → SrcL (n + 40 * (i + 1)) o2 → G D' = none → G' D' = some (.lst (ns.map V.int)) → ns.length = wd → (∀ j ∈ ns, j.natAbs ≤ 2 * 3 ^ (i + 1)) →
          ∃ (c4' c5' c6' c7' c8' c9' : Option V) (o' : HO) (rs' : List Addr) (nss' : List (List Int)),
            ([some (.ref p), some (.int (wd : Int)), some (.int (m : Int)), some (.ref q), c4, c5, some (.ref D'), c7, c8, c9] : L2.St) = [some (.ref p), some (.int (wd : Int)), some (.int (m : Int)), some (.ref q), c4', c5', c6', c7', c8', c9'] ∧
            upd G' q (.lst (rs.map V.ref ++ [.ref D'])) p = some o' ∧ SrcL (n + 40 * (i + 1)) o' ∧ But p H (upd G' q (.lst (rs.map V.ref ++ [.ref D']))) ∧ upd G' q (.lst (rs.map V.ref ++ [.ref D'])) q = some (.lst (rs'.map V.ref)) ∧
            LRows (upd G' q (.lst (rs.map V.ref ++ [.ref D']))) wd (2 * 3 ^ (i + 1)) rs' nss' ∧ rs'.length = i + 1 ∧ ∀ r ∈ rs', H r = none ∧ r ≠ p ∧ r ≠ q := by
        intro G' D' ns o2 c4 c5 c7 c8 c9 b2 h2 s2 nD hD hl hb
        have nDp : D' ≠ p := fun e => by
          rw [e, hG] at nD
          cases nD
        have nDq : D' ≠ q := fun e => by
          rw [e, hGq] at nD
          cases nD
        have keep : ∀ r u, r ≠ p → r ≠ q → G r = some u → upd G' q (.lst (rs.map V.ref ++ [.ref D'])) r = some u := fun r u n1 n2 e => by
          rw [upd_ne n2]
          exact b2 _ _ n1 e
        refine ⟨c4, c5, _, c7, c8, c9, o2, rs ++ [D'], nss ++ [ns], rfl, by rw [upd_ne (Ne.symm nqp)]; exact h2, s2, fun b u nb e => ?_, by rw [upd_same, List.map_append]; rfl, ?_, by rw [List.length_append, hlen]; rfl, ?_⟩
        · exact keep b u nb (fun e2 => by
            rw [e2, hq] at e
            cases e) (bG _ _ nb e)
        · refine Paired.snoc (Paired.keepMem hrs fun r hr ms h => ⟨keep r _ (hfr r hr).2.1 (hfr r hr).2.2 h.1, h.2.1, fun j hj => Nat.le_trans (h.2.2 j hj) p3⟩) ⟨?_, hl, hb⟩
          rw [upd_ne nDq]
          exact hD
        · intro r hr
          rcases List.mem_append.mp hr with h | h
          · exact hfr r h
          · rw [List.mem_singleton.mp h]
            refine ⟨?_, nDp, nDq⟩
            cases e : H D' with
            | none => rfl
            | some u => rw [bG _ _ nDp e] at nD; cases nD
      refine ⟨_, rfl, p, o1, n + 40 * i, 8, rfl, hG, ho1, by omega, by decide, by decide, fun way o2 w0 w1 ho2 => ?_⟩
      generalize hG1 : upd G p o2 = G1
      have b1 : But p G G1 := by rw [← hG1]; exact But.upd
      have hG1p : G1 p = some o2 := by rw [← hG1, upd_same]
      have pos : 0 < 3 ^ (i + 1) := Nat.pow_pos (by decide)
      refine ⟨_, rfl, (wd : Int), rfl, by omega, by omega, fun D nD => comp_range (lo := 0) (n := wd) (fun j G' => But p G1 G' ∧ ∃ o3, G' p = some o3 ∧ SrcL (n + 40 * i + 1 + j) o3) (fun _ y => ∃ v, y = .int v ∧ v.natAbs ≤ 2)
        ⟨fun _ _ _ e => e, o2, hG1p, ho2⟩ ?_ (by omega) (fun _ => rfl) ?_ ?_⟩
      · rintro j G' u ⟨b2, o3, h3, s3⟩
        have nDp : D ≠ p := fun e => by
          rw [e, hG1p] at nD
          cases nD
        refine ⟨fun b x nb e => ?_, o3, by rw [upd_ne (Ne.symm nDp)]; exact h3, s3⟩
        rw [upd_ne (ne_of_none e nD)]
        exact b2 _ _ nb e
      · rintro j G' hj ⟨b2, o3, h3, s3⟩ R hR
        refine ⟨_, rfl, p, o3, _, 5, rfl, h3, s3, by omega, by decide, by decide, fun v o4 v0 v1 ho4 => ⟨_, _, rfl, rfl, hR _ _ ⟨_, rfl, by omega⟩ ⟨b2.trans But.upd, o4, upd_same, ho4⟩ ?_⟩⟩
        exact upd_ne fun e => by
          rw [e, hG1p] at nD
          cases nD
      · rintro G2 ys ⟨b2, o3, h3, s3⟩ hD gv
        obtain ⟨ns, rfl, hl, hb⟩ := gv.ints
        have bG2 := b1.trans b2
        have nGD : G D = none := by
          cases e : G D with
          | none => rfl
          | some u =>
            by_cases e2 : D = p
            · rw [e2, hG1p] at nD
              cases nD
            · rw [b1 _ _ e2 e] at nD
              cases nD
        have hG2q := bG2 _ _ nqp hGq
        have pos1 : 2 ≤ 2 * 3 ^ (i + 1) := by omega
        have hsz : (rs.map V.ref).length < sizeLine := by
          rw [List.length_map, hlen]
          exact Nat.lt_of_lt_of_le (by omega : _ < 61) (by decide)
        have ne : ∀ {G3 : Hp} {e : Addr}, But p G2 G3 → G3 e = some (.lst []) → Dp K G3 (.ref q) (ltabD nss) ∧ Dp K G3 (.ref e) (.list []) := fun b3 he => ⟨ldp_tab (b3 _ _ nqp hG2q) (Paired.keepMem hrs fun r hr ms h => b3 _ _ (hfr r hr).2.1 (bG2 _ _ (hfr r hr).2.1 h.1)), .lst (SqL.of he) .nil⟩
        refine ⟨_, rfl, rfl, _, rfl, ?_⟩
        by_cases way0 : way = 0
        · rw [decide_eq_true (congrArg V.int way0)]
          refine iteT ⟨_, rfl, Nat.zero_le _, fun e ne0 => ?_⟩
          have be : But p G2 (upd G2 e (.lst [])) := But.same (same_upd ne0)
          obtain ⟨d1, d2⟩ := ne be upd_same
          refine ⟨_, _, d1, d2, shaped_ltab _, rfl, _, rfl, ?_⟩
          rw [eqv_none]
          have nDp : D ≠ p := fun e => by
            rw [e, hG1p] at nD
            cases nD
          by_cases emp : rs = []
          · have en : nss = [] := by
              rw [emp] at hrs
              cases hrs
              rfl
            rw [en]
            refine iteF ⟨_, rfl, rfl, _, rfl, ?_⟩
            rw [decide_eq_false (fun h => by have := V.int.inj h; omega)]
            refine iteF ⟨_, rfl, rfl, _, rfl, ?_⟩
            rw [decide_eq_false (fun h => by have := V.int.inj h; omega)]
            have hq3 := be _ _ nqp hG2q
            refine iteF ⟨_, rfl, .inl ⟨rfl, _, SqL.of hq3⟩, _, rfl, q, _, _, rfl, rfl, hq3, hsz, ?_⟩
            exact fin _ D ns o3 _ _ _ _ _ (bG2.trans be) (same_upd ne0 _ _ h3) (s3.mono (by omega)) nGD (be _ _ nDp hD) hl fun j hj => Nat.le_trans (hb j hj) pos1
          · have en : nss.isEmpty = false := by
              cases nss with
              | nil => cases hrs; exact absurd rfl emp
              | cons _ _ => rfl
            rw [en]
            have hq3 := be _ _ nqp hG2q
            refine iteT ⟨_, rfl, _, rfl, p, q, o3, _, _, rfl, same_upd ne0 _ _ h3, s3, by omega, hq3, by simpa using emp, by rw [List.length_map]; omega, Ne.symm nqp, fun x o4 hx ho4 => ?_⟩
            obtain ⟨r, hr2, rfl⟩ := List.mem_map.mp hx
            obtain ⟨ms, _, hrow, hml, hmb⟩ := paired_mem hrs hr2
            have b4 : But p G2 (upd (upd G2 e (.lst [])) p o4) := be.trans But.upd
            have hrow4 := b4 _ _ (hfr r hr2).2.1 (bG2 _ _ (hfr r hr2).2.1 hrow)
            refine ⟨r, _, rfl, .inl (SqL.of hrow4), fun L nL => ?_⟩
            generalize hG5 : upd (upd (upd G2 e (.lst [])) p o4) L (.lst (ms.map V.int)) = G5
            have s5 : Same (upd (upd G2 e (.lst [])) p o4) G5 := by rw [← hG5]; exact same_upd nL
            have b5 := b4.trans (But.same s5)
            have hq5 := b5 _ _ nqp hG2q
            refine ⟨_, rfl, .inl ⟨rfl, _, SqL.of hq5⟩, _, rfl, q, _, _, rfl, rfl, hq5, hsz, ?_⟩
            refine fin _ L ms o4 _ _ _ _ _ (bG2.trans b5) (s5 _ _ upd_same) (ho4.mono (by omega)) ?_ (by rw [← hG5, upd_same]) hml fun j hj => Nat.le_trans (hmb j hj) p3
            exact (bG2.trans b4).free upd_same nL
        · rw [decide_eq_false (fun h => way0 (V.int.inj h))]
          have nDp : D ≠ p := fun e => by
            rw [e, hG1p] at nD
            cases nD
          refine iteF ⟨_, rfl, rfl, _, rfl, ?_⟩
          by_cases way1 : way = 1
          · rw [decide_eq_true (congrArg V.int way1)]
            refine iteT ⟨_, rfl, Nat.zero_le _, fun e ne0 => ?_⟩
            have be : But p G2 (upd G2 e (.lst [])) := But.same (same_upd ne0)
            obtain ⟨d1, d2⟩ := ne be upd_same
            refine ⟨_, _, d1, d2, shaped_ltab _, rfl, _, rfl, ?_⟩
            rw [eqv_none]
            by_cases emp : rs = []
            · have en : nss = [] := by
                rw [emp] at hrs
                cases hrs
                rfl
              rw [en]
              refine iteF ⟨_, rfl, rfl, _, rfl, ?_⟩
              rw [decide_eq_false (fun h => by have := V.int.inj h; omega)]
              have hq3 := be _ _ nqp hG2q
              refine iteF ⟨_, rfl, .inl ⟨rfl, _, SqL.of hq3⟩, _, rfl, q, _, _, rfl, rfl, hq3, hsz, ?_⟩
              exact fin _ D ns o3 _ _ _ _ _ (bG2.trans be) (same_upd ne0 _ _ h3) (s3.mono (by omega)) nGD (be _ _ nDp hD) hl fun j hj => Nat.le_trans (hb j hj) pos1
            · have en : nss.isEmpty = false := by
                cases nss with
                | nil => cases hrs; exact absurd rfl emp
                | cons _ _ => rfl
              rw [en]
              have hq3 := be _ _ nqp hG2q
              refine iteT ⟨_, rfl, p, o3, _, 3, rfl, same_upd ne0 _ _ h3, s3, by omega, by decide, by decide, fun v o4 v0 v1 ho4 => ⟨1, v, rfl, rfl, ?_⟩⟩
              have b4 : But p G2 (upd (upd G2 e (.lst [])) p o4) := be.trans But.upd
              have hq4 := b4 _ _ nqp hG2q
              refine ⟨_, rfl, _, rfl, p, q, o4, _, _, rfl, upd_same, ho4, by omega, hq4, by simpa using emp, by rw [List.length_map]; omega, Ne.symm nqp, fun x o5 hx ho5 => ?_⟩
              obtain ⟨r, hr2, rfl⟩ := List.mem_map.mp hx
              obtain ⟨ms, _, hrow, hml, hmb⟩ := paired_mem hrs hr2
              rw [upd_upd]
              have b5 : But p G2 (upd (upd G2 e (.lst [])) p o5) := be.trans But.upd
              have hrow5 := b5 _ _ (hfr r hr2).2.1 (bG2 _ _ (hfr r hr2).2.1 hrow)
              refine ⟨r, rfl, ⟨_, SqL.of hrow5⟩, fun L nL => map_listG ((ms.map fun j => (1 + v) * j).map V.int) (by rw [List.length_map, List.length_map, List.length_map]) hrow5 nL (by rw [List.length_map]; omega) (fun _ => rfl) ?_ ?_⟩
              · intro j x y G' hx hy sH R hR
                obtain ⟨z, rfl, hz⟩ := int_at hx
                rw [List.getElem?_map, List.getElem?_map, hz] at hy
                cases hy
                exact ⟨_, rfl, _, rfl, _, _, rfl, rfl, .inl ⟨by omega, by omega⟩, hR _ same_refl⟩
              · intro G6 s6 hL
                have b6 := b5.trans (But.same s6)
                have hq6 := b6 _ _ nqp hG2q
                refine ⟨_, rfl, .inl ⟨rfl, _, SqL.of hq6⟩, _, rfl, q, _, _, rfl, rfl, hq6, hsz, ?_⟩
                refine fin _ L (ms.map fun j => (1 + v) * j) o5 _ _ _ _ _ (bG2.trans b6) (s6 _ _ upd_same) (ho5.mono (by omega)) ((bG2.trans b5).free upd_same nL) hL (by rw [List.length_map]; exact hml) fun j hj => ?_
                obtain ⟨z, hz, rfl⟩ := List.mem_map.mp hj
                have h3 := hmb z hz
                have h4 : (1 + v).natAbs ≤ 3 := by omega
                rw [Int.natAbs_mul, Nat.pow_succ]
                have := Nat.mul_le_mul h4 h3
                omega
          · rw [decide_eq_false (fun h => way1 (V.int.inj h))]
            refine iteF ⟨_, rfl, rfl, _, rfl, ?_⟩
            by_cases way2 : way = 2
            · rw [decide_eq_true (congrArg V.int way2)]
              refine iteT ⟨_, rfl, (wd : Int), rfl, by omega, by omega, fun L nL => comp_rangeD (lo := 0) (n := wd) (fun j G' => But p G2 G' ∧ ∃ o4, G' p = some o4 ∧ SrcL (n + 40 * i + 1 + wd + j) o4) (fun _ y => ∃ v, y = .int v ∧ v.natAbs ≤ 2)
                ⟨fun _ _ _ e => e, o3, h3, s3⟩ ?_ (by omega) (fun _ => rfl) ?_ ?_⟩
              · rintro j G' u ⟨b4, o4, h4, s4⟩
                have nLp : L ≠ p := fun e => by
                  rw [e, h3] at nL
                  cases nL
                refine ⟨fun b x nb e => ?_, o4, by rw [upd_ne (Ne.symm nLp)]; exact h4, s4⟩
                rw [upd_ne (ne_of_none e nL)]
                exact b4 _ _ nb e
              · rintro j G' cur hj ⟨b4, o4, h4, s4⟩ hcur R hR
                have nLp : L ≠ p := fun e => by
                  rw [e, h3] at nL
                  cases nL
                refine ⟨Nat.le_of_ble_eq_true rfl, fun l hl0 => ?_⟩
                have nlp : l ≠ p := fun e => by
                  rw [e, h4] at hl0
                  cases hl0
                refine ⟨_, rfl, p, o4, _, 3, rfl, same_upd hl0 _ _ h4, s4, by omega, by decide, by decide, fun v o5 v0 v1 ho5 => ?_⟩
                have key : ∀ j : Nat, j < 3 → ∃ f : Int, ([0, 0, 1] : List Int)[j]? = some f ∧ f.natAbs ≤ 2 := by decide
                obtain ⟨jj, rfl⟩ : ∃ jj : Nat, v = jj := ⟨v.toNat, by omega⟩
                obtain ⟨f, hf, hf2⟩ := key jj (by omega)
                refine ⟨l, jj, _, V.int f, rfl, rfl, by rw [upd_ne nlp, upd_same]; rfl, atI_nat (xs := ([0, 0, 1] : List Int).map V.int) (by rw [List.getElem?_map, hf]; rfl), hR _ _ ⟨f, rfl, hf2⟩ ⟨(b4.trans (But.same (same_upd hl0))).trans But.upd, o5, upd_same, ho5⟩ ?_⟩
                rw [upd_ne nLp, upd_ne]
                exact ne_of_none hcur hl0
              · rintro G6 ys ⟨b4, o4, h4, s4⟩ hL gv2
                obtain ⟨ms, rfl, hml, hmb⟩ := gv2.ints
                have hq6 := b4 _ _ nqp hG2q
                refine ⟨_, rfl, .inl ⟨rfl, _, SqL.of hq6⟩, _, rfl, q, _, _, rfl, rfl, hq6, hsz, ?_⟩
                exact fin _ L ms o4 _ _ _ _ _ (bG2.trans b4) h4 (s4.mono (by omega)) (bG2.free h3 nL) hL hml fun j hj => Nat.le_trans (hmb j hj) pos1
            · rw [decide_eq_false (fun h => way2 (V.int.inj h))]
              refine iteF ⟨_, rfl, .inl ⟨rfl, _, SqL.of hG2q⟩, _, rfl, q, _, _, rfl, rfl, hG2q, hsz, ?_⟩
              exact fin _ D ns o3 _ _ _ _ _ bG2 h3 (s3.mono (by omega)) nGD hD hl fun j hj => Nat.le_trans (hb j hj) pos1
    · rintro σ G ⟨c4, c5, c6, c7, c8, c9, o1, rs, nss, rfl, hG, ho1, bG, hGq, hrs, hlen, hfr⟩
      exact ⟨_, rfl, k G q rs nss o1 bG hG ho1 hGq hrs hlen hq nqp hfr⟩
end
/-! ### a row as it is told, by the law -/
abbrev sLTR : Stmt := top 26
def spLTR : Sp := fun vs H Q _ => ∃ (a : Addr) (f : Int) (ns : List Int), vs = [.ref a, .int f] ∧ H a = some (.lst (ns.map V.int)) ∧ ns.length ≤ 12 ∧ 0 ≤ f ∧
  ∀ H' t, Same H H' → H t = none → H' t = some (.tup ((ns.map (tell f)).map V.int)) → Q (.ref t) H'
section
variable {P : Program} {w : World} {K : PySem.W.Frag} {mg : Str → Option Value} {base : Heap}
theorem scLTR : FnScope ["_law_row", "_law_field_here", "_law_number"] ["_law_row", "_law_field_here"] (defScope sLTR) := ⟨rfl, rfl, rfl, by decide +kernel, rfl, by decide +kernel, by decide +kernel⟩
theorem ok_ltr {f : Addr} {fd : FuncData} (F : Fun K "_law_told_row" "_law_told_row" sLTR f fd) (N : Nm mg) : FnOk P w K mg base CX0 1 f fd ["_law_row", "_law_field_here"] spLTR := by
  refine F.ok scLTR (fun vs H Q E h => ?_) (fun cdv A outer s H vs Q E hr h => ?_)
  · obtain ⟨a, f, ns, rfl, _⟩ := h
    rfl
  · obtain ⟨a, fl, ns, rfl, hS, hl, hf, k⟩ := h
    have nd := scLTR.nd
    refine ⟨_, pss_one (ps_ret (pe_callTy call_tuple_of (by rfl) N.tuple (by decide +kernel) (pa_cons (pe_lc (own := [("_law_number", 2)]) (g := gName 2) (tt := tYes) rfl nd (pi_list (pv 0))
        (blkOk_by (own := [("_law_number", 2)]) (N := ["_law_row", "_law_field_here", "_law_number"]) (sc := defScope sLTR) (by decide +kernel)) (fun _ _ _ _ _ => pg_name (i := 2) nd rfl (Or.inl rfl)) (fun _ _ _ _ _ => pts_nil)
        (fun _ _ _ _ _ => pe_ifExp (pt_cmpR op_gt (pv 1) pe_int (nomark _)) (pe_op op_mod (pe_callTy call_int1 (by rfl) N.int (by decide +kernel) (pa_cons (pv 2) pa_nil)) (pv 1)) (pv 2))) pa_nil))), ?_⟩
    refine ⟨_, rfl, a, rfl, ⟨_, SqL.of hS⟩, fun D nD => comp_list (fun _ H' => Same H H') (fun j y => ∀ i, ns[j]? = some i → y = V.int (tell fl i)) same_refl (fun _ _ _ h => same_new nD h) (fun _ _ h => SqL.of (h _ _ hS)) (by rw [List.length_map]; omega) (fun _ => rfl) ?_ ?_⟩
    · intro j x H' hx hH R hR
      obtain ⟨i, rfl, hi⟩ := int_at hx
      have fin : ∀ v, v = tell fl i → R (.int v) H' := by
        rintro v rfl
        refine hR _ _ (fun i2 h2 => ?_) hH rfl
        rw [hi] at h2
        cases h2
        rfl
      refine ⟨_, rfl, fl, 0, rfl, rfl, _, rfl, ?_⟩
      by_cases z : 0 < fl
      · rw [decide_eq_true z]
        refine iteT ⟨_, rfl, .inl ⟨i, rfl, _, rfl, i, fl, rfl, rfl, z, fin _ ?_⟩⟩
        unfold tell
        rw [if_neg (by omega)]
      · rw [decide_eq_false z]
        refine iteF ⟨_, rfl, fin _ ?_⟩
        unfold tell
        rw [if_pos (by omega)]
    · intro H' ys hH e g
      rw [told_items (List.length_map ..) g] at e
      exact ⟨D, _, rfl, .inl ⟨SqL.of e, fun l hl0 => k _ _ (hH.trans (same_upd hl0)) (hH.free hl0) upd_same⟩⟩
end
/-! ### the law -/
abbrev sLaw : Stmt := top 27
abbrev nsLaw : List Str := ["_law_script", "_law_source_here", "_law_width", "_law_field_here", "_law_rows_here", "_law_great", "_law_handed", "_law_table", "_law_row", "_law_due", "_law_odd", "_law_more", "_law_others", "_law_number", "_law_k", "_law_f", "_law_other"]
/-- all but what some lists hold is as before -/
def FixL (S : List Addr) (H H' : Hp) : Prop := ∀ b u, H b = some u → ((∀ xs, u ≠ .lst xs) ∨ b ∉ S) → H' b = some u
theorem FixL.trans {S : List Addr} {A B C : Hp} (h : FixL S A B) (k : FixL S B C) : FixL S A C := fun b u e n => k b u (h b u e n) n
theorem FixL.same {S : List Addr} {A B : Hp} (h : Same A B) : FixL S A B := fun b u e _ => h b u e
theorem FixL.upd {S : List Addr} {A : Hp} {b : Addr} {xs ys : List V} (m : b ∈ S) (e : A b = some (.lst xs)) : FixL S A (L2.upd A b (.lst ys)) := by
  intro c u e2 n
  by_cases z : c = b
  · subst z
    rw [e] at e2
    cases e2
    rcases n with n | n
    · exact absurd rfl (n xs)
    · exact absurd m n
  · rw [upd_ne z]
    exact e2
theorem TabAt.fix {C : Addr} {S : List Addr} {H H' : Hp} {p : Addr} {f : Int} {nss : List (List Int)} (h : TabAt C H p f nss) (s : FixL S H H') : TabAt C H' p f nss := by
  obtain ⟨dx, t, ts, h1, h2, h3⟩ := h
  exact ⟨dx, t, ts, s _ _ h1 (.inl fun _ e => nomatch e), s _ _ h2 (.inl fun _ e => nomatch e), h3.keep fun t m u e => by
    obtain ⟨ns, _, q⟩ := paired_mem h3 m
    rw [q] at e
    cases e
    exact s _ _ q (.inl fun _ z => nomatch z)⟩
theorem FixL.mono {S S' : List Addr} {A B : Hp} (h : FixL S A B) (k : ∀ b ∈ S, b ∈ S') : FixL S' A B := fun b u e n => h b u e (n.elim .inl fun z => .inr fun m => z (k b m))
/-- all but tables of code is as before -/
def ExtT (H H' : Hp) : Prop := ∀ b u, H b = some u → (∀ ps, u ≠ .tbl ps) → H' b = some u
theorem ExtT.same {A B : Hp} (h : Same A B) : ExtT A B := fun b u e _ => h b u e
theorem ExtT.trans {A B C : Hp} (h : ExtT A B) (k : ExtT B C) : ExtT A C := fun b u e n => k b u (h b u e n) n
theorem TabAt.ext {C : Addr} {H H' : Hp} {p : Addr} {f : Int} {nss : List (List Int)} (h : TabAt C H p f nss) (s : ExtT H H') : TabAt C H' p f nss := by
  obtain ⟨dx, t, ts, h1, h2, h3⟩ := h
  exact ⟨dx, t, ts, s _ _ h1 (fun _ e => nomatch e), s _ _ h2 (fun _ e => nomatch e), h3.keep fun t m u e => by
    obtain ⟨ns, _, q⟩ := paired_mem h3 m
    rw [q] at e
    cases e
    exact s _ _ q fun _ z => nomatch z⟩
theorem shaped_ltup (nss : List (List Int)) : SeqAt.shaped (.list (nss.map rowD)) = true := by
  unfold SeqAt.shaped
  rw [Bool.and_eq_true]
  refine ⟨lay_rows nss, decide_eq_true ?_⟩
  have := depth_rows nss
  rw [PyData.depth]
  omega
theorem ltup_lay (nss : List (List Int)) : (PyData.list (nss.map rowD)).canLay0 = true := lay_rows nss
/-- the width, 0 where there are no rows -/
def tWid : TE := fun σ H R => ∃ (q : Addr) (rs : List Addr) (nss : List (List Int)) (wn : Nat), σ[4]? = some (some (.ref q)) ∧ σ[2]? = some (some (.int (wn : Int))) ∧ H q = some (.lst (rs.map V.ref)) ∧ Paired (fun r ns => H r = some (.lst (ns.map V.int))) rs nss ∧
  ∀ H', Same H H' → R (.int (if nss = [] then 0 else (wn : Int))) H'
/-- a table that is not equal to one of the rows mss over fl -/
def Diff (C : Addr) (fl : Int) (mss : List (List Int)) (H : Hp) (o : Addr) : Prop := ∃ g mss', TabAt C H o g mss' ∧ (decide (fl = g) && decide (tellN fl mss = tellN g mss')) = false
theorem mk_tab {C : Addr} {H : Hp} {a : Addr} {f : Int} {wd : Nat} {hs : List Addr} {mss : List (List Int)} {R : VK} (hb : Sq H a (hs.map V.ref)) (hR : RowsAt H wd hs mss) (hw : wd ≤ 12) (hl : hs.length ≤ 60) (hf : f ∈ fields)
    (q : ∀ x H2, Same H H2 → H x = none → TabAt C H2 x f mss → R (.ref x) H2) : ∀ x dx, H x = none → H dx = none → dx ≠ x → spInit1 C ([V.ref x] ++ [.ref a, .int f]) (upd (upd H dx (.own x)) x (.ins C dx [])) (fun v H4 => v = .non ∧ R (.ref x) H4) E0 := by
  intro x dx hx hdx ne
  have s4 : Same H (upd (upd H dx (.own x)) x (.ins C dx [])) := same_new hx (same_upd hdx)
  refine ⟨x, a, dx, f, wd, hs, mss, rfl, upd_same, fun e => ?_, hb.same s4, RowsAt.keep hR fun r _ u e => s4 _ _ e, fun r m e => ?_, hw, hl, hf, fun H5 b5 tab => ⟨rfl, q x H5 (fun c u e => b5 c u (fun z => ?_) (s4 _ _ e)) hx tab⟩⟩
  · rcases hb with h | h <;> (rw [← e, hx] at h; cases h)
  · obtain ⟨ks, _, h, _⟩ := paired_mem hR m
    rw [e] at h
    rcases h with h | h <;> (rw [hx] at h; cases h)
  · rw [z, hx] at e
    cases e
theorem mk_tab2 {C x dx : Addr} {H : Hp} {a : Addr} {f : Int} {wd : Nat} {hs : List Addr} {mss : List (List Int)} {Z : Hp → Prop} (hx : H x = none) (hdx : H dx = none) (ne : dx ≠ x) (hb : Sq H a (hs.map V.ref)) (hR : RowsAt H wd hs mss) (hw : wd ≤ 12) (hl : hs.length ≤ 60) (hf : f ∈ fields)
    (q : ∀ H2, Same H H2 → TabAt C H2 x f mss → Z H2) : spInit1 C ([V.ref x] ++ [.ref a, .int f]) (upd (upd H dx (.own x)) x (.ins C dx [])) (fun v H4 => v = .non ∧ Z H4) E0 := by
  have key := mk_tab (C := C) (R := fun y H2 => y = .ref x → Z H2) hb hR hw hl hf (fun y H2 s2 _ tab e => q H2 s2 (by cases e; exact tab)) x dx hx hdx ne
  obtain ⟨p1, a1, d1, f1, w1, r1, n1, e1, h2, h3, h4, h5, h6, h7, h8, h9, h10⟩ := key
  exact ⟨p1, a1, d1, f1, w1, r1, n1, e1, h2, h3, h4, h5, h6, h7, h8, h9, fun H' b t => ⟨(h10 H' b t).1, (h10 H' b t).2 rfl⟩⟩
theorem gives_tell {fl : Int} {ks : List Int} {n : Nat} {ys : List V} (hn : n = ks.length) (g : Gives (fun i y => ∃ v v0, y = V.int v ∧ ks[i]? = some v0 ∧ tell fl v = tell fl v0) n ys) : ∃ ms : List Int, ys = ms.map V.int ∧ ms.length = ks.length ∧ ms.map (tell fl) = ks.map (tell fl) := by
  subst hn
  obtain ⟨h1, h2⟩ := g
  have key : ∀ (ks : List Int) (ys : List V), ys.length = ks.length → (∀ (j : Nat) (y : V), ys[j]? = some y → ∃ v v0, y = V.int v ∧ ks[j]? = some v0 ∧ tell fl v = tell fl v0) → ∃ ms : List Int, ys = ms.map V.int ∧ ms.length = ks.length ∧ ms.map (tell fl) = ks.map (tell fl) := by
    intro ks
    induction ks with
    | nil =>
      intro ys h _
      exact ⟨[], List.eq_nil_of_length_eq_zero h, rfl, rfl⟩
    | cons k0 r ih =>
      intro ys h g
      cases ys with
      | nil => simp at h
      | cons y yr =>
        obtain ⟨v, v0, rfl, e, t⟩ := g 0 y rfl
        cases e
        obtain ⟨ms, rfl, h3, h4⟩ := ih yr (by simpa using h) fun j z e => g (j + 1) z (by simpa using e)
        exact ⟨v :: ms, rfl, by simp [h3], by rw [List.map_cons, List.map_cons, t, h4]⟩
  exact key ks ys h1 fun j y e => h2 j y e
/-- the great rows, and the drawn ones: whether there are any -/
structure Std (H : Hp) (D q p : Addr) (ts rs : List Addr) (mss nss : List (List Int)) (wn : Nat) : Prop where
  lD : H D = some (.lst (ts.map V.ref))
  rows : Paired (fun r ns => H r = some (.lst (ns.map V.int)) ∧ ns.length = wn) ts mss
  lq : H q = some (.lst (rs.map V.ref))
  qr : Paired (fun r ns => H r = some (.lst (ns.map V.int))) rs nss
  len : rs.length = ts.length
  nD : D ≠ p
  nq : q ≠ p
  nt : ∀ t ∈ ts, t ≠ p
  nr : ∀ r ∈ rs, r ≠ p
  few : ts.length ≤ 20
  thin : wn ≤ 12
theorem Std.but {H H' : Hp} {D q p : Addr} {ts rs : List Addr} {mss nss : List (List Int)} {wn : Nat} (h : Std H D q p ts rs mss nss wn) (b : But p H H') : Std H' D q p ts rs mss nss wn :=
  ⟨b _ _ h.nD h.lD, Paired.keepMem h.rows fun r m ns e => ⟨b _ _ (h.nt r m) e.1, e.2⟩, b _ _ h.nq h.lq, Paired.keepMem h.qr fun r m ns e => b _ _ (h.nr r m) e, h.len, h.nD, h.nq, h.nt, h.nr, h.few, h.thin⟩
theorem Std.same {H H' : Hp} {D q p : Addr} {ts rs : List Addr} {mss nss : List (List Int)} {wn : Nat} (h : Std H D q p ts rs mss nss wn) (s : Same H H') : Std H' D q p ts rs mss nss wn := h.but (But.same s)
theorem flat_zero : ∀ wn : Nat, (List.replicate wn [V.int 0]).flatten = (List.replicate wn (0 : Int)).map V.int
  | 0 => rfl
  | k + 1 => by
    rw [List.replicate_succ, List.flatten_cons, flat_zero k]
    rfl
/-- at a step: the slots, the source, the rows -/
def Here (p D q : Addr) (fl : Int) (wn : Nat) (σ : L2.St) : Prop := σ[1]? = some (some (.ref p)) ∧ σ[2]? = some (some (.int (wn : Int))) ∧ σ[3]? = some (some (.int fl)) ∧ σ[4]? = some (some (.ref q)) ∧ σ[5]? = some (some (.ref D))
theorem cut1 (xs : List V) : cutV xs (some 1) none = xs.tail := by
  unfold cutV
  cases xs with
  | nil => rfl
  | cons x r =>
    have e1 : HT.sIx (x :: r).length 0 (some 1) = 1 := by
      simp only [HT.sIx]
      first | omega | (simp; omega) | simp
    have e2 : HT.sIx (x :: r).length (x :: r).length none = (x :: r).length := by simp [HT.sIx]
    rw [e1, e2]
    simp
theorem FixL.but {p : Addr} {S : List Addr} {H H' : Hp} {l : List V} (hp : H p = some (.lst l)) (m : p ∈ S) (b : But p H H') : FixL S H H' := by
  intro c u e n
  refine b c u (fun z => ?_) e
  subst z
  rw [hp] at e
  cases e
  rcases n with n | n
  · exact n _ rfl
  · exact n m
theorem Diff.fix {C : Addr} {fl : Int} {mss : List (List Int)} {S : List Addr} {H H' : Hp} {o : Addr} (d : Diff C fl mss H o) (f : FixL S H H') : Diff C fl mss H' o := by
  obtain ⟨g, m, t, e⟩ := d
  exact ⟨g, m, t.fix f, e⟩
structure Apart (O D q p : Addr) (ts rs : List Addr) : Prop where
  p : O ≠ p
  D : O ≠ D
  q : O ≠ q
  ts : ∀ t ∈ ts, t ≠ O
  rs : ∀ r ∈ rs, r ≠ O
theorem Std.fix {H H' : Hp} {D q p O : Addr} {ts rs : List Addr} {mss nss : List (List Int)} {wn : Nat} (h : Std H D q p ts rs mss nss wn) (a : Apart O D q p ts rs) (f : FixL [p, O] H H') : Std H' D q p ts rs mss nss wn := by
  have out : ∀ b u, b ≠ p → b ≠ O → H b = some u → H' b = some u := fun b u n1 n2 e => f b u e (.inr (by simp [n1, n2]))
  exact ⟨out _ _ h.nD (Ne.symm a.D) h.lD, Paired.keepMem h.rows fun r m ns e => ⟨out _ _ (h.nt r m) (a.ts r m) e.1, e.2⟩, out _ _ h.nq (Ne.symm a.q) h.lq, Paired.keepMem h.qr fun r m ns e => out _ _ (h.nr r m) (a.rs r m) e, h.len, h.nD, h.nq, h.nt, h.nr, h.few, h.thin⟩
/-- another field is drawn -/
def tPickF : TE := fun σ H R => ∃ (p : Addr) (o : HO) (n : Nat) (fl : Int), (∃ c0 c2 c4 c5 c6 c7 c8 c9 c10 c11 c12 c13 c14 c15 c16 : Option V, σ = [c0, some (.ref p), c2, some (.int fl), c4, c5, c6, c7, c8, c9, c10, c11, c12, c13, c14, c15, c16]) ∧ H p = some o ∧ SrcL n o ∧ n ≤ 90000 ∧
  ∀ H2 o2 g, But p H H2 → H2 p = some o2 → SrcL (n + 1) o2 → g ∈ fields → g ≠ fl → R (.int g) H2
/-- a statement that may put tables that are not equal to the others -/
def tPut (C : Addr) : TS := fun Dd σ H => ∃ (p D q O : Addr) (os ts rs : List Addr) (mss nss : List (List Int)) (wn : Nat) (fl : Int) (o : HO) (n : Nat), (∃ c0 c6 c7 c8 c9 c10 c11 c13 c14 c15 c16 : Option V, σ = [c0, some (.ref p), some (.int (wn : Int)), some (.int fl), some (.ref q), some (.ref D), c6, c7, c8, c9, c10, c11, some (.ref O), c13, c14, c15, c16]) ∧ Std H D q p ts rs mss nss wn ∧ Apart O D q p ts rs ∧ fl ∈ fields ∧ H p = some o ∧ SrcL n o ∧ n ≤ 80000 ∧ H O = some (.lst (os.map V.ref)) ∧ os.length ≤ 10 ∧ (∀ o ∈ os, Diff C fl mss H o) ∧
  ∀ (H2 : Hp) (o2 : HO) (os2 : List Addr), FixL [p, O] H H2 → H2 p = some o2 → SrcL (n + 2) o2 → H2 O = some (.lst (os2.map V.ref)) → os2.length ≤ os.length + 2 → (∀ o ∈ os2, Diff C fl mss H2 o) → Dd.nx σ H2
def tOne (C : Addr) : TE := fun σ H R => ∃ p D q ts rs mss nss wn fl, Here p D q fl wn σ ∧ Std H D q p ts rs mss nss wn ∧ fl ∈ fields ∧ ∀ H2 o, Same H H2 → Diff C fl mss H2 o → R (.ref o) H2
/-- a table is made of rows in a list, handed over as a list or as a tuple -/
def tTab (C : Addr) : TE := fun σ H R => ∃ (p a : Addr) (o : HO) (n : Nat) (f : Int) (wd : Nat) (hs : List Addr) (mss : List (List Int)), σ[1]? = some (some (.ref p)) ∧ σ[6]? = some (some (.ref a)) ∧ σ[3]? = some (some (.int f)) ∧ H p = some o ∧ SrcL n o ∧ n ≤ 90000 ∧
  H a = some (.lst (hs.map V.ref)) ∧ RowsAt H wd hs mss ∧ wd ≤ 12 ∧ hs.length ≤ 60 ∧ f ∈ fields ∧ a ≠ p ∧ (∀ h ∈ hs, h ≠ p) ∧ ∀ x H2 o2, But p H H2 → H2 p = some o2 → SrcL (n + 1) o2 → H x = none → x ≠ p → TabAt C H2 x f mss → R (.ref x) H2
def spLaw (K : PySem.W.Frag) (pt : Addr) : Sp := fun vs H Q _ => ∃ (a : Addr) (ns : List Int), vs = [.ref a] ∧ SqL K H a (ns.map V.int) ∧ H pt = some (.tbl #[]) ∧ ∀ H', Q (.bl true) H'
section
variable {P : Program} {w : World} {K : PySem.W.Frag} {mg : Str → Option Value} {base : Heap}
theorem scLa : FnScope nsLaw ["_law_script"] (defScope sLaw) := ⟨rfl, rfl, rfl, by decide +kernel, rfl, by decide +kernel, by decide +kernel⟩
theorem ok_law {f fS fD fP fF fR fI fE fA fL fQ fT fN fGF fGW C CN cda pt pF pW : Addr} {fdS fdD fdP fdF fdR fdI fdE fdA fdL fdQ fdN fdGF fdGW : FuncData} {oc oT kV doc pm ct kVT dcT pmT cdT ctT : Value} {od an odT anT : Option Addr} {osl slT : Array (Option Value)}
    (here : K.lookup f = some ⟨oc, od, .func (PySem.W.fnOf "law" "law" (defArgs sLaw) (defBody sLaw) (defScope sLaw) .none kV doc pm an (.ref cda) ct), osl⟩) (code : PySem.W.codeIn K (.ref cda) "law" = true) (TB : LamX.TabB base mg cda pt)
    (lkT : K.lookup fT = some ⟨oT, odT, .func (PySem.W.fnOf "_law_tried" "_law_tried" (defArgs sTried) (defBody sTried) (defScope sTried) .none kVT dcT pmT anT cdT ctT), slT⟩) (cT : PySem.W.codeIn K cdT "_law_tried" = true) (kT : PySem.W.keepIn K (.ref fT) = true) (gT : mg "_law_tried" = some (.ref fT))
    (bT : Binds K (PySem.W.fnOf "_law_tried" "_law_tried" (defArgs sTried) (defBody sTried) (defScope sTried) .none kVT dcT pmT anT cdT ctT) ["_law_job"] [])
    (MN : Made K P mg "NoRow" "row" CN fN fdN) (xN : PySem.W.exmOne K (.ref CN) (.ref CN) = some true) (zr : mg "repr" = none) (za : mg "any" = none) (N : Nm mg) (T : RTxt K mg C) (R : RIs K C) (M : Mk K C fI)
    (GS : FnOk P w K mg base CX0 1 fS fdS ["_law_script"] (spSource K)) (kS : PySem.W.keepIn K (.ref fS) = true) (bS : Binds K fdS ["_law_script"] []) (gS : mg "_law_source" = some (.ref fS))
    (GD : FnOk P w K mg base CX0 1 fD fdD ["_law_source_here", "_law_many"] spDraw) (kD : PySem.W.keepIn K (.ref fD) = true) (bD : Binds K fdD ["_law_source_here", "_law_many"] []) (gD : mg "_law_draw" = some (.ref fD))
    (GP : FnOk P w K mg base CX0 2 fP fdP ["_law_source_here", "_law_things"] (spPick K)) (kP : PySem.W.keepIn K (.ref fP) = true) (bP : Binds K fdP ["_law_source_here", "_law_things"] []) (gP : mg "_law_pick" = some (.ref fP))
    (GF : FnOk P w K mg base CX0 2 fF fdF ["_law_source_here"] spLField) (kF : PySem.W.keepIn K (.ref fF) = true) (bF : Binds K fdF ["_law_source_here"] []) (gF : mg "_law_field" = some (.ref fF))
    (GR : FnOk P w K mg base CX0 3 fR fdR ["_law_source_here", "_law_width", "_law_many"] spLRows) (kR : PySem.W.keepIn K (.ref fR) = true) (bR : Binds K fdR ["_law_source_here", "_law_width", "_law_many"] []) (gR : mg "_law_rows" = some (.ref fR))
    (GI : FnOk P w K mg base CX0 4 fI fdI ["self", "rows", "field"] (spInit1 C)) (bI : Binds K fdI ["self", "rows", "field"] [])
    (GE : FnOk P w K mg base CX0 1 fE fdE ["self", "other"] (spEqAny (EqA C))) (bE : Binds K fdE ["self", "other"] []) (hE : PySem.W.findIn K (.ref C) "__eq__" = some (some (.ref fE))) (iE : PySem.W.isFn K (.ref fE) = true) (hNe : PySem.W.findIn K (.ref C) "__ne__" = some (some (.builtin "object.__ne__")))
    (GA : FnOk P w K mg base (L2.CX P w) 3 fA fdA ["self", "row"] (spRowAt C CN)) (bA : Binds K fdA ["self", "row"] []) (mA : Meth K C "row_at" fA)
    (GL : FnOk P w K mg base CX0 1 fL fdL ["self"] (spLen (LenIs C))) (bL : Binds K fdL ["self"] []) (hL : PySem.W.findIn K (.ref C) "__len__" = some (some (.ref fL))) (iL : PySem.W.isFn K (.ref fL) = true)
    (GQ : FnOk P w K mg base CX0 1 fQ fdQ ["_law_row", "_law_field_here"] spLTR) (kQ : PySem.W.keepIn K (.ref fQ) = true) (bQ : Binds K fdQ ["_law_row", "_law_field_here"] []) (gQ : mg "_law_told_row" = some (.ref fQ))
    (GGF : FnOk P w K mg base CX0 1 fGF fdGF ["self"] (getSp C "_field")) (bGF : Binds K fdGF ["self"] []) (pGF : PropOf K C "field" pF fGF)
    (GGW : FnOk P w K mg base CX0 1 fGW fdGW ["self"] (getSp C "_width")) (bGW : Binds K fdGW ["self"] []) (pGW : PropOf K C "width" pW fGW) :
    FnOkG P w K mg base CX0 7 f (PySem.W.fnOf "law" "law" (defArgs sLaw) (defBody sLaw) (defScope sLaw) .none kV doc pm an (.ref cda) ct) ["_law_script"] (spLaw K pt) := by
  refine bodyG here code scLa (fun vs H Q E h => ?_) (fun A outer s H vs Q E gd hr h => ?_)
  · obtain ⟨a, ns, rfl, _⟩ := h
    rfl
  · obtain ⟨a, ns, rfl, hS, hPt, k⟩ := h
    have nd := scLa.nd
    have hr1 : Room 1 _ := hr.mono (by decide)
    have hr2 : Room 2 _ := hr.mono (by decide)
    have hr3 : Room 3 _ := hr.mono (by decide)
    have hr5 : Room 5 _ := hr.mono (by decide)
    have un := hr.units
    have hu100 := hr.un
    suffices red : ∃ t, PSs (cxOf CX0 P w K mg base nsLaw "law" (defScope sLaw) f (.ref cda) A outer s H E).nox (defBody sLaw) t ∧ t { nx := fun _ H' => Q .non H', rt := Q } (L2.start nsLaw [.ref a]) H by
      obtain ⟨t, h1, h2⟩ := red
      exact ⟨t, h1.nox, h2⟩
    refine ⟨_, pss_cons (ps_set (i := 1) nd rfl (.inr rfl) (pe_call GS hr1 rfl gS kS bS .nil pass0 (pa_cons (pv 0) pa_nil)))
      (pss_cons (ps_asg (pe_tup (pa_cons (pe_call GD hr1 rfl gD kD bD .nil pass0 (pa_cons (pv 1) (pa_cons pe_int pa_nil))) (pa_cons (pe_call GF hr2 rfl gF kF bF .nil pass0 (pa_cons (pv 1) pa_nil)) pa_nil)))
          (pg_tup rfl (pgs_cons (pg_name (i := 2) nd rfl (.inl rfl)) (pgs_cons (pg_name (i := 3) nd rfl (.inr rfl)) pgs_nil))))
      (pss_cons (ps_set (i := 4) nd rfl (.inl rfl) (pe_call GR hr3 rfl gR kR bR .nil pass0 (pa_cons (pv 1) (pa_cons (pv 2) (pa_cons (pe_call GD hr1 rfl gD kD bD .nil pass0 (pa_cons (pv 1) (pa_cons pe_int pa_nil))) pa_nil)))))
      (pss_cons (ps_setLc (i := 5) (own := [("_law_row", 8)]) (g := gName 8) (tt := tYes) rfl nd rfl rfl (sw_true rfl rfl rfl (by decide +kernel)) (pi_list (pv 4))
          (blkOk_by (own := [("_law_row", 8)]) (N := nsLaw) (sc := defScope sLaw) (by decide +kernel)) (fun _ _ _ _ _ => pg_name (i := 8) nd rfl (Or.inl rfl)) (fun _ _ _ _ _ => pts_nil)
          (fun _ _ _ _ _ => pe_lc (own := [("_law_number", 13)]) (g := gName 13) (tt := tYes) rfl nd (pi_listK (K := K) rfl (pv 8)) (blkOk_by (own := [("_law_number", 13)]) (N := nsLaw) (by kernel_rfl))
            (fun _ _ _ _ _ => pg_name (i := 13) nd rfl (Or.inl rfl)) (fun _ _ _ _ _ => pts_nil)
            (fun _ _ _ _ _ => pe_op op_mulW (pv 13) (pe_call GP hr2 rfl gP kP bP .nil pass0 (pa_cons (pv 1) (pa_cons (pe_lst (pa_cons pe_int (pa_cons pe_int (pa_cons (pe_op op_powW pe_int pe_int) (pa_cons (pe_op op_sub (pe_op op_sub pe_int (pe_op op_powW pe_int pe_int)) pe_int) pa_nil))))) pa_nil))))))
      (pss_cons (ps_setLc (i := 6) (own := [("_law_row", 8)]) (g := gName 8) (tt := tYes) rfl nd rfl rfl (sw_true rfl rfl rfl (by decide +kernel)) (pi_list (pv 5))
          (blkOk_by (own := [("_law_row", 8)]) (N := nsLaw) (sc := defScope sLaw) (by decide +kernel)) (fun _ _ _ _ _ => pg_name (i := 8) nd rfl (Or.inl rfl)) (fun _ _ _ _ _ => pts_nil)
          (fun _ _ _ _ _ => pe_ifExp (pt_cmpR op_eq (pe_call GD hr1 rfl gD kD bD .nil pass0 (pa_cons (pv 1) (pa_cons pe_int pa_nil))) pe_int (nomark _)) (pe_callTy (call_list_ofK (K := K) rfl) (by rfl) N.list (by decide +kernel) (pa_cons (pv 8) pa_nil)) (pe_callTy (call_tuple_ofK (K := K) rfl) (by rfl) N.tuple (by decide +kernel) (pa_cons (pv 8) pa_nil))))
      (pss_cons (ps_set (i := 7) nd rfl (.inr rfl) (PE.imp' (t' := tTab C) (pe_ifExp (pt_cmpR op_eq (pe_call GD hr1 rfl gD kD bD .nil pass0 (pa_cons (pv 1) (pa_cons pe_int pa_nil))) pe_int (nomark _)) (pe_make M GI hr5 (by rfl) T.mgC bI .nil pass0 (pa_cons (pv 6) (pa_cons (pv 3) pa_nil)))
          (pe_make M GI hr5 (by rfl) T.mgC bI .nil pass0 (pa_cons (pe_callTy call_tuple_of (by rfl) N.tuple (by decide +kernel) (pa_cons (pv 6) pa_nil)) (pa_cons (pv 3) pa_nil)))) ?tab))
      (pss_cons (ps_for PassesOwn.never rfl (pi_list (pv 6)) (pg_name (i := 8) nd rfl (.inl rfl)) (pss_one (ps_if (pt_val (pe_callB call_isi (by rfl) N.isin (by decide +kernel) (pa_cons (pv 8) (pa_cons (pe_bltn (v := V.ty "list") (by rfl) N.list (by decide +kernel) rfl) pa_nil))))
          (pss_one (ps_expr (pe_bm PySem.F.plainAttrs_list PySem.F.slot_list_append PySem.F.type_list_append mt_append (pv 8) (pa_cons pe_str pa_nil)))) pss_nil)))
      (pss_cons (ps_expr (pe_bm0 PySem.F.plainAttrs_list PySem.F.slot_list_clear PySem.F.type_list_clear mt_clear (pv 6)))
      (pss_cons (ps_setLc (i := 9) (own := [("_law_row", 8)]) (g := gName 8) (tt := tYes) rfl nd rfl rfl (sw_true rfl rfl rfl (by decide +kernel)) (pi_list (pv 5))
          (blkOk_by (own := [("_law_row", 8)]) (N := nsLaw) (sc := defScope sLaw) (by decide +kernel)) (fun _ _ _ _ _ => pg_name (i := 8) nd rfl (Or.inl rfl)) (fun _ _ _ _ _ => pts_nil)
          (fun _ _ _ _ _ => pe_call GQ hr1 rfl gQ kQ bQ .nil pass0 (pa_cons (pv 8) (pa_cons (pv 3) pa_nil))))
      (pss_cons (ps_if (PW.pt (pw_or (pt_cmpR op_ne (pe_prop (pv 7) T.cl pGF GGF hr2 bGF .nil pass0 rfl) (pv 3) (nomark _)) (pw_or (pt_cmpR op_ne (pe_prop (pv 7) T.cl pGW GGW hr2 bGW .nil pass0 rfl) (PE.imp' (t' := tWid) (pe_ifExp (pt_cmpR (op_neD un) (pv 4) (pe_lst pa_nil) (nomark _)) (pv 2) pe_int) ?wid) (nomark _)) (pw_or1 (pt_cmpR op_ne (pe_callB (call_lenOwn (C := C) GL hr2 hL iL bL pass0) (by rfl) N.len PySem.boot_len (pa_cons (pv 7) pa_nil)) (pe_callB lenL (by rfl) N.len PySem.boot_len (pa_cons (pv 4) pa_nil)) (nomark _)))))) (pss_one (ps_ret pe_bl)) pss_nil)
      (pss_cons (ps_if (pt_cmpR (op_neD un) (pe_lc (own := [("_law_k", 14)]) (g := gName 14) rfl nd (pi_range1 (by rfl) N.range (pa_cons (pe_callB lenL (by rfl) N.len PySem.boot_len (pa_cons (pv 4) pa_nil)) pa_nil)) (blkOk_by (own := [("_law_k", 14)]) (N := nsLaw) (sc := defScope sLaw) (by decide +kernel)) (fun _ _ _ _ _ => pg_name (i := 14) nd rfl (Or.inl rfl)) (fun _ _ _ _ _ => pts_nil) (fun _ _ _ _ _ => pe_meth (pv 7) T.cl mA GA hr3 bA .nil passL (pa_cons (pv 14) pa_nil))) (pv 9) (nomark _)) (pss_one (ps_ret pe_bl)) pss_nil)
      (pss_cons (ps_set (i := 10) nd rfl (.inr rfl) (pe_call GP hr2 rfl gP kP bP .nil pass0 (pa_cons (pv 1) (pa_cons (pe_lst (pa_cons (pe_callB lenL (by rfl) N.len PySem.boot_len (pa_cons (pv 4) pa_nil)) (pa_cons (pe_un un_neg pe_int) (pa_cons pe_non (pa_cons pe_str (pa_cons pe_bl (pa_cons (pe_tup (pa_cons pe_int pa_nil)) (pa_cons (pe_lst (pa_cons pe_int pa_nil)) (pa_cons (pe_op op_powW pe_int pe_int) pa_nil))))))))) pa_nil))))
      (pss_cons (ps_if (PW.pt (pw_or (pt_cmpR (op_neD un) (LamX.pe_lamcall (T := [(pt, _)]) (k := 4) rfl gT kT lkT cT bT scTd rfl (.inl rfl) (tried_gives MN zr xN gd (show (A.deeper (PyProof.Rows.envOfC "law" (defScope sLaw) s.heap.objs.size f (.ref cda))).units + 100 < cLine by have := hr.un; omega)) TB rfl (.head _) (fun p hp _ => by rw [List.mem_singleton.mp hp]) hr (LamX.lamS_by (by kernel_rfl)) rfl (fun _ _ _ _ _ => rfl) (fun A2 o2 s2 H2 E2 f2 c2 hr4 => pe_meth (pv 7) T.cl mA GA (hr4.mono (by decide)) bA .nil (passes_call (takes_of rfl rfl rfl rfl) fun _ _ _ _ h => h) (pa_cons (pv 10) pa_nil))) (pe_tup (pa_cons pe_str (pa_cons (pe_callB (call_reprK (K := K) rfl gd un) (id := "repr") (by rfl) zr (by decide +kernel) (pa_cons (pv 10) pa_nil)) pa_nil))) (nomark _))
          (pw_or1 (pt_val (pe_callB call_isi (by rfl) N.isin (by decide +kernel) (pa_cons (pe_prop (pv 7) T.cl pGF GGF hr2 bGF .nil pass0 rfl) (pa_cons (pe_bltn (v := V.ty "bool") (by rfl) N.bool (by decide +kernel) rfl) pa_nil))))))) (pss_one (ps_ret pe_bl)) pss_nil)
      (pss_cons (ps_setLc (i := 11) (own := [("_law_row", 8)]) (g := gName 8) (tt := tYes) rfl nd rfl rfl (sw_true rfl rfl rfl (by decide +kernel)) (pi_list (pv 5))
          (blkOk_by (own := [("_law_row", 8)]) (N := nsLaw) (sc := defScope sLaw) (by decide +kernel)) (fun _ _ _ _ _ => pg_name (i := 8) nd rfl (Or.inl rfl)) (fun _ _ _ _ _ => pts_nil)
          (fun _ _ _ _ _ => pe_lc (own := [("_law_number", 13)]) (g := gName 13) (tt := tYes) rfl nd (pi_listK (K := K) rfl (pv 8)) (blkOk_by (own := [("_law_number", 13)]) (N := nsLaw) (by kernel_rfl))
            (fun _ _ _ _ _ => pg_name (i := 13) nd rfl (Or.inl rfl)) (fun _ _ _ _ _ => pts_nil)
            (fun _ _ _ _ _ => pe_op op_add (pv 13) (pe_op op_mulW (pv 3) (pe_op op_sub (pe_call GD hr1 rfl gD kD bD .nil pass0 (pa_cons (pv 1) (pa_cons pe_int pa_nil))) pe_int)))))
      (pss_cons (ps_set (i := 12) nd rfl (.inl rfl) (pe_lst (pa_cons (PE.imp' (t' := tOne C) (pe_ifExp (PW.pt (pw_and (pt_cmpR op_lt (pe_callB lenL (by rfl) N.len PySem.boot_len (pa_cons (pv 4) pa_nil)) pe_int (nomark _)) (pw_and1 (pt_cmpR (op_neD un) (pv 4) (pe_lst pa_nil) (nomark _))))) (pe_make M GI hr5 (by rfl) T.mgC bI .nil pass0 (pa_cons (pe_op op_cat (pv 5) (pe_lst (pa_cons (pe_op op_rep (pe_lst (pa_cons pe_int pa_nil)) (pv 2)) pa_nil))) (pa_cons (pv 3) pa_nil))) (pe_make M GI hr5 (by rfl) T.mgC bI .nil pass0 (pa_cons (pe_lst (pa_cons (pe_lst (pa_cons pe_int pa_nil)) pa_nil)) (pa_cons (pv 3) pa_nil)))) ?one) pa_nil)))
      (pss_cons (PS.imp' (t' := tPut C) (ps_if (PW.pt (pw_and (pt_cmpR op_gt (pv 2) pe_int (nomark _)) (pw_and1 (pt_cmpR (op_neD un) (pv 4) (pe_lst pa_nil) (nomark _))))) (pss_cons (ps_expr (pe_bm PySem.F.plainAttrs_list PySem.F.slot_list_append PySem.F.type_list_append mt_append (pv 12) (pa_cons (pe_make M GI hr5 (by rfl) T.mgC bI .nil pass0 (pa_cons (pe_op op_cat (pe_lst (pa_cons (pe_op op_cat (pe_lst (pa_cons (pe_op op_add (pe_ix ixL (pe_ix ixL (pv 5) pe_int (fun _ _ => rfl)) pe_int (fun _ _ => rfl)) pe_int) pa_nil)) (pe_callTy call_list_of (by rfl) N.list (by decide +kernel) (pa_cons (pe_slice sl_list (pe_ix ixL (pv 5) pe_int (fun _ _ => rfl)) (po_some pe_int) po_none) pa_nil))) pa_nil)) (pe_slice sl_list (pv 5) (po_some pe_int) po_none)) (pa_cons (pv 3) pa_nil))) pa_nil))) (pss_one (ps_expr (pe_bm PySem.F.plainAttrs_list PySem.F.slot_list_append PySem.F.type_list_append mt_append (pv 12) (pa_cons (pe_make M GI hr5 (by rfl) T.mgC bI .nil pass0 (pa_cons (pv 5) (pa_cons ((PE.imp' (t' := tPickF) (pe_call GP hr2 rfl gP kP bP .nil pass0 (pa_cons (pv 1) (pa_cons (pe_lc (own := [("_law_f", 15)]) (g := gName 15) rfl nd (pi_list (pe_lst (pa_cons pe_int (pa_cons pe_int (pa_cons pe_int (pa_cons pe_int pa_nil)))))) (blkOk_by (own := [("_law_f", 15)]) (N := nsLaw) (sc := defScope sLaw) (by decide +kernel)) (fun _ _ _ _ _ => pg_name (i := 15) nd rfl (Or.inl rfl)) (fun _ _ _ _ _ => pts_one (pt_cmpR op_ne (pv 15) (pv 3) (nomark _))) (fun _ _ _ _ _ => pv 15)) pa_nil))) ?pickA)) pa_nil))) pa_nil))))) pss_nil) ?put1)
      (pss_cons (PS.imp' (t' := tPut C) (ps_if (pt_cmpR (op_eqD un) (pv 4) (pe_lst pa_nil) (nomark _)) (pss_one (ps_expr (pe_bm PySem.F.plainAttrs_list PySem.F.slot_list_append PySem.F.type_list_append mt_append (pv 12) (pa_cons (pe_make M GI hr5 (by rfl) T.mgC bI .nil pass0 (pa_cons (pe_lst pa_nil) (pa_cons ((PE.imp' (t' := tPickF) (pe_call GP hr2 rfl gP kP bP .nil pass0 (pa_cons (pv 1) (pa_cons (pe_lc (own := [("_law_f", 15)]) (g := gName 15) rfl nd (pi_list (pe_lst (pa_cons pe_int (pa_cons pe_int (pa_cons pe_int (pa_cons pe_int pa_nil)))))) (blkOk_by (own := [("_law_f", 15)]) (N := nsLaw) (sc := defScope sLaw) (by decide +kernel)) (fun _ _ _ _ _ => pg_name (i := 15) nd rfl (Or.inl rfl)) (fun _ _ _ _ _ => pts_one (pt_cmpR op_ne (pv 15) (pv 3) (nomark _))) (fun _ _ _ _ _ => pv 15)) pa_nil))) ?pickB)) pa_nil))) pa_nil)))) pss_nil) ?put2)
      (pss_cons (ps_if (PW.pt (pw_or (pt_val (pe_callB (cr_any rfl) (by rfl) za (by decide +kernel) (pa_cons (pe_lc (own := [("_law_other", 16)]) (g := gName 16) rfl nd (pi_list (pv 12)) (blkOk_by (own := [("_law_other", 16)]) (N := nsLaw) (sc := defScope sLaw) (by decide +kernel)) (fun _ _ _ _ _ => pg_name (i := 16) nd rfl (Or.inl rfl)) (fun _ _ _ _ _ => pts_nil) (fun _ _ _ _ _ => pe_or (pe_cmpR (op_eqIns (C := C) GE hr1 hE iE bE) (pv 7) (pv 16) (nomark _)) (pe_one (pe_not (pe_cmpR (op_neIns (C := C) GE hr2 hE hNe R.hm iE bE) (pv 7) (pv 16) (nomark _)))))) pa_nil))) (pw_or1 (pt_cmpR (op_eqLst (C := C) GE hr1 hE iE bE) (pv 7) (pv 5) (nomark _))))) (pss_one (ps_ret pe_bl)) pss_nil)
      (pss_one (ps_ret (pe_and (pe_cmpR (op_eqIns (C := C) GE hr1 hE iE bE) (pv 7) (pe_make M GI hr5 (by rfl) T.mgC bI .nil pass0 (pa_cons (pv 11) (pa_cons (pv 3) pa_nil))) (nomark _)) (pe_one (pe_not (pe_cmpR (op_neIns (C := C) GE hr2 hE hNe R.hm iE bE) (pv 7) (pe_make M GI hr5 (by rfl) T.mgC bI .nil pass0 (pa_cons (pv 5) (pa_cons (pv 3) pa_nil))) (nomark _)))))))))))))))))))))))), ?_⟩
    case' pickA =>
      rintro σ H0 R ⟨p, o, n, fl, ⟨c0, c2, c4, c5, c6, c7, c8, c9, c10, c11, c12, c13, c14, c15, c16, rfl⟩, hp, ho, hn, kk⟩
    case' pickB =>
      rintro σ H0 R ⟨p, o, n, fl, ⟨c0, c2, c4, c5, c6, c7, c8, c9, c10, c11, c12, c13, c14, c15, c16, rfl⟩, hp, ho, hn, kk⟩
    case pickA | pickB =>
      refine ⟨_, rfl, Nat.le_of_ble_eq_true rfl, fun b1 m1 => ⟨b1, rfl, ⟨_, SqL.of upd_same⟩, fun b2 m2 => filt_it walk_list (([0, 2, 3, 13] : List Int).map fun g => if g = fl then none else some (V.int g)) (by rfl) (fun H' s => SqL.of (s _ _ upd_same)) m2 (Nat.le_of_ble_eq_true rfl) (fun _ _ _ _ h => h.1) (fun _ => rfl) ?_ ?_⟩⟩
      · rintro j y og G ⟨_, hy⟩ hg _ Nn R2 hN hR
        have hj : ∃ g : Int, y = .int g ∧ og = (if g = fl then none else some (V.int g)) := by
          match j, hy, hg with
          | 0, hy, hg => exact ⟨0, (Option.some.inj hy).symm, (Option.some.inj hg).symm⟩
          | 1, hy, hg => exact ⟨2, (Option.some.inj hy).symm, (Option.some.inj hg).symm⟩
          | 2, hy, hg => exact ⟨3, (Option.some.inj hy).symm, (Option.some.inj hg).symm⟩
          | 3, hy, hg => exact ⟨13, (Option.some.inj hy).symm, (Option.some.inj hg).symm⟩
          | j + 4, hy, _ => simp at hy
        obtain ⟨g, rfl, rfl⟩ := hj
        refine ⟨_, rfl, _, rfl, rfl, _, rfl, ?_⟩
        by_cases e : g = fl
        · rw [decide_eq_true (congrArg V.int e)]
          exact (if_neg Bool.false_ne_true).mpr (hN (if_pos e) _ same_refl)
        · rw [decide_eq_false fun h => e (V.int.inj h)]
          exact (if_pos rfl).mpr ⟨_, rfl, hR _ (if_neg e) _ same_refl⟩
      · intro G sG hG
        have np : p ≠ b2 := fun e => by
          rw [← e] at m2
          rw [upd_ne (fun z => by rw [← z, hp] at m1; cases m1), hp] at m2
          cases m2
        have u1 := same_upd m1 (o := .lst [V.int 0, V.int 2, V.int 3, V.int 13])
        refine ⟨p, b2, o, n, _, rfl, sG _ _ (u1 _ _ hp), ho, by omega, hG, ?_, ?_, np, fun y o2 hy ho2 => ?_⟩
        · by_cases e : (0 : Int) = fl
          · subst e
            decide
          · simp [e]
        · exact Nat.lt_of_le_of_lt (List.length_filterMap_le _ _) (show 4 < 1000 by decide)
        · obtain ⟨g, hg, e⟩ := List.mem_filterMap.mp hy
          obtain ⟨g0, hg0, rfl⟩ := List.mem_map.mp hg
          by_cases z : g0 = fl
          · rw [if_pos z] at e
            cases e
          · rw [if_neg z] at e
            cases e
            exact kk _ o2 g0 ((But.same (u1.trans sG)).trans But.upd) upd_same ho2 (by simp only [List.mem_cons, List.not_mem_nil, or_false] at hg0; rcases hg0 with rfl | rfl | rfl | rfl <;> decide) z
    case put2 =>
      rintro Dd σ H0 ⟨p, D, q, O, os, ts, rs, mss, nss, wn, fl, o, n, ⟨c0, c6, c7, c8, c9, c10, c11, c13, c14, c15, c16, rfl⟩, st, ap, hf, hp, ho, hn, hO, hol, hd, kk⟩
      obtain ⟨g1, g2, g3, eo, _⟩ := id ho
      have hpl : H0 p = some (.lst [.int g1, .int g2, .int g3]) := by rw [hp, eo]
      have nothing : ∀ H1, Same H0 H1 → Dd.nx _ H1 := fun H1 s1 => kk H1 o os (FixL.same s1) (s1 _ _ hp) (ho.mono (by omega)) (s1 _ _ hO) (by omega) fun x m => (hd x m).fix (S := []) (FixL.same s1)
      refine ⟨_, rfl, Nat.zero_le _, fun l0 nl0 => ?_⟩
      have s1 := same_upd nl0 (o := .lst [])
      have st1 := st.same s1
      refine ⟨_, _, ldp_tab st1.lq st1.qr, .lst (SqL.of upd_same) .nil, shaped_ltab _, rfl, _, rfl, ?_⟩
      rw [eqv_none]
      cases nss with
      | cons n0 nr0 => exact iteF (nothing _ s1)
      | nil =>
      refine iteT ?_
      generalize upd H0 l0 (.lst []) = H1 at s1 st1
      have hp1 := s1 _ _ hp
      have hO1 := s1 _ _ hO
      refine ⟨_, rfl, .inl ⟨rfl, _, SqL.of hO1⟩, Nat.zero_le _, fun a1 n1 => ?_⟩
      have u1 := same_upd n1 (o := .lst [])
      refine ⟨p, o, n, fl, ⟨_, _, _, _, _, _, _, _, _, _, _, _, _, _, _, rfl⟩, u1 _ _ hp1, ho, by omega, fun H2 o2 g b2 hp2 ho2 hg ng => ?_⟩
      have a1p : a1 ≠ p := fun e => by
        rw [e, hp1] at n1
        cases n1
      refine mk_tab (C := C) (R := fun y H3 => rAppend (.ref O) [y] H3 fun _ H' => Dd.nx _ H') (hs := []) (mss := []) (wd := 0) (.inl (b2 _ _ a1p upd_same)) .nil (by decide) (by decide) hg fun y H3 s3 _ tab => ?_
      have hO3 := s3 _ _ (b2 _ _ ap.p (u1 _ _ hO1))
      refine ⟨O, _, .ref y, rfl, rfl, hO3, Nat.lt_of_le_of_lt (by rw [List.length_map]; exact hol) (by decide), ?_⟩
      have f3 : FixL [p, O] H0 H3 := (FixL.but (S := [p, O]) hpl (.head _) ((But.same (s1.trans u1)).trans b2)).trans (FixL.same s3)
      have f4 := f3.trans (FixL.upd (S := [p, O]) (ys := os.map V.ref ++ [.ref y]) (.tail _ (.head _)) hO3)
      have f34 : FixL [O] H3 (upd H3 O (.lst (os.map V.ref ++ [.ref y]))) := FixL.upd (.head _) hO3
      refine kk _ o2 (os ++ [y]) f4 (by rw [upd_ne (Ne.symm ap.p)]; exact s3 _ _ hp2) (ho2.mono (by omega)) (by rw [upd_same, List.map_append]; rfl) (by rw [List.length_append, List.length_singleton]; omega) fun z m => ?_
      rcases List.mem_append.mp m with m | m
      · exact (hd z m).fix f4
      · rw [List.mem_singleton.mp m]
        exact ⟨g, [], tab.fix f34, by rw [decide_eq_false (Ne.symm ng), Bool.false_and]⟩
    case put1 =>
      rintro Dd σ H0 ⟨p, D, q, O, os, ts, rs, mss, nss, wn, fl, o, n, ⟨c0, c6, c7, c8, c9, c10, c11, c13, c14, c15, c16, rfl⟩, st, ap, hf, hp, ho, hn, hO, hol, hd, kk⟩
      obtain ⟨g1, g2, g3, eo, _⟩ := id ho
      have hpl : H0 p = some (.lst [.int g1, .int g2, .int g3]) := by rw [hp, eo]
      have nothing : ∀ H1, Same H0 H1 → Dd.nx _ H1 := fun H1 s1 => kk H1 o os (FixL.same s1) (s1 _ _ hp) (ho.mono (by omega)) (s1 _ _ hO) (by omega) fun x m => (hd x m).fix (S := []) (FixL.same s1)
      have l1 := Paired.length st.rows
      have l2 := Paired.length st.qr
      have l3 := st.len
      have l4 := st.few
      have l5 := st.thin
      refine ⟨_, rfl, _, _, rfl, rfl, _, rfl, ?_⟩
      by_cases w0 : wn = 0
      · rw [decide_eq_false (by omega)]
        exact iteF (nothing _ same_refl)
      rw [decide_eq_true (by omega)]
      refine iteT ⟨_, rfl, Nat.zero_le _, fun l0 nl0 => ?_⟩
      have s1 := same_upd nl0 (o := .lst [])
      have st1 := st.same s1
      refine ⟨_, _, ldp_tab st1.lq st1.qr, .lst (SqL.of upd_same) .nil, shaped_ltab _, rfl, _, rfl, ?_⟩
      rw [eqv_none]
      cases nss with
      | nil => exact iteF (nothing _ s1)
      | cons n0 nr0 =>
      refine iteT ?_
      generalize upd H0 l0 (.lst []) = H1 at s1 st1
      have hp1 := s1 _ _ hp
      have hO1 := s1 _ _ hO
      obtain ⟨t0, tr, rfl⟩ : ∃ t0 tr, ts = t0 :: tr := by
        cases ts with
        | nil => simp at l3; rw [l3] at l2; simp at l2
        | cons a b => exact ⟨a, b, rfl⟩
      obtain ⟨k0, kr, rfl⟩ : ∃ k0 kr, mss = k0 :: kr := by
        cases mss with
        | nil => simp at l1
        | cons a b => exact ⟨a, b, rfl⟩
      obtain ⟨h0, hr0⟩ : (H1 t0 = some (.lst (k0.map V.int)) ∧ k0.length = wn) ∧ Paired (fun r ns => H1 r = some (.lst (ns.map V.int)) ∧ ns.length = wn) tr kr := by
        have := st1.rows
        cases this with
        | cons h t => exact ⟨h, t⟩
      obtain ⟨v0, k1, rfl⟩ : ∃ v0 k1, k0 = v0 :: k1 := by
        cases k0 with
        | nil => exact absurd h0.2.symm w0
        | cons a b => exact ⟨a, b, rfl⟩
      have at00 : atI ((v0 :: k1).map V.int) 0 = some (.int v0) := at0
      have atD : atI ((t0 :: tr).map V.ref) 0 = some (.ref t0) := at0
      refine ⟨_, rfl, .inl ⟨rfl, _, SqL.of hO1⟩, _, rfl, D, 0, _, .ref t0, rfl, rfl, st1.lD, atD, t0, 0, _, .int v0, rfl, rfl, h0.1, at00, _, _, rfl, rfl, Nat.le_of_ble_eq_true rfl, fun a1 n1 => ?_⟩
      have u1 := same_upd n1 (o := .lst [.int (v0 + 1)])
      refine ⟨_, rfl, D, 0, _, .ref t0, rfl, rfl, u1 _ _ st1.lD, atD, 1, rfl, t0, _, rfl, SqL.of (u1 _ _ h0.1), fun a2 n2 => ?_⟩
      rw [cut1]
      have u2 := same_upd n2 (o := .lst ((v0 :: k1).map V.int).tail)
      refine ⟨a2, _, rfl, .inl (SqL.of upd_same), fun a3 n3 => ?_⟩
      have u3 := same_upd n3 (o := .lst ((v0 :: k1).map V.int).tail)
      refine ⟨a1, a3, _, _, rfl, rfl, u3 _ _ (u2 _ _ upd_same), upd_same, ?_, fun a4 n4 => ⟨Nat.le_of_ble_eq_true rfl, fun a5 n5 => ?_⟩⟩
      · have := h0.2
        simp only [List.length_cons] at this
        exact Nat.le_trans (by simp; omega : _ ≤ 100) (by decide)
      have u4 := same_upd n4 (o := .lst ([.int (v0 + 1)] ++ ((v0 :: k1).map V.int).tail))
      have u5 := same_upd n5 (o := .lst [.ref a4])
      have u15 := (((u1.trans u2).trans u3).trans u4).trans u5
      refine ⟨_, rfl, 1, rfl, D, _, rfl, SqL.of (u15 _ _ st1.lD), fun a6 n6 => ?_⟩
      rw [cut1]
      have u6 := same_upd n6 (o := .lst ((t0 :: tr).map V.ref).tail)
      refine ⟨a5, a6, _, _, rfl, rfl, u6 _ _ upd_same, upd_same, ?_, fun a7 n7 => ?_⟩
      · simp only [List.length_cons] at l4
        exact Nat.le_trans (by simp; omega : _ ≤ 100) (by decide)
      have u7 := same_upd n7 (o := .lst ([.ref a4] ++ ((t0 :: tr).map V.ref).tail))
      have e7 : upd (upd (upd (upd (upd (upd (upd H1 a1 (.lst [.int (v0 + 1)])) a2 (.lst ((v0 :: k1).map V.int).tail)) a3 (.lst ((v0 :: k1).map V.int).tail)) a4 (.lst ([.int (v0 + 1)] ++ ((v0 :: k1).map V.int).tail))) a5 (.lst [.ref a4])) a6 (.lst ((t0 :: tr).map V.ref).tail)) a7 (.lst ([.ref a4] ++ ((t0 :: tr).map V.ref).tail)) a7 = some (.lst ((a4 :: tr).map V.ref)) := upd_same
      have e4 := u7 _ _ (u6 _ _ (u5 _ _ (upd_same (H := upd (upd (upd H1 a1 (.lst [.int (v0 + 1)])) a2 (.lst ((v0 :: k1).map V.int).tail)) a3 (.lst ((v0 :: k1).map V.int).tail)) (a := a4) (o := .lst ([.int (v0 + 1)] ++ ((v0 :: k1).map V.int).tail)))))
      have s7 := (u15.trans u6).trans u7
      generalize upd (upd (upd (upd (upd (upd (upd H1 a1 (.lst [.int (v0 + 1)])) a2 (.lst ((v0 :: k1).map V.int).tail)) a3 (.lst ((v0 :: k1).map V.int).tail)) a4 (.lst ([.int (v0 + 1)] ++ ((v0 :: k1).map V.int).tail))) a5 (.lst [.ref a4])) a6 (.lst ((t0 :: tr).map V.ref).tail)) a7 (.lst ([.ref a4] ++ ((t0 :: tr).map V.ref).tail)) = H7 at e7 e4 s7
      have st7 := st1.same s7
      have few : (a4 :: tr).length ≤ 60 := by
        simp only [List.length_cons] at l4 ⊢
        omega
      refine ⟨_, rfl, fun y dxy hy0 hdxy ney => mk_tab2 hy0 hdxy ney (hs := a4 :: tr) (mss := ((v0 + 1) :: k1) :: kr) (wd := wn) (.inl e7) (.cons ⟨.inl e4, h0.2⟩ (Paired.keepMem hr0 fun r m ns e => ⟨.inl (s7 _ _ e.1), e.2⟩)) l5 few hf fun H8 s8 tab => ?_⟩
      have hO8 := s8 _ _ (s7 _ _ hO1)
      refine ⟨O, _, .ref y, rfl, rfl, hO8, Nat.lt_of_le_of_lt (by rw [List.length_map]; exact hol) (by decide), ?_⟩
      have s08 := (s1.trans s7).trans s8
      have f9 : FixL [p, O] H8 (upd H8 O (.lst (os.map V.ref ++ [.ref y]))) := FixL.upd (.tail _ (.head _)) hO8
      have f09 := (FixL.same (S := [p, O]) s08).trans f9
      have hg := fields_ge hf
      have dif1 : Diff C fl ((v0 :: k1) :: kr) (upd H8 O (.lst (os.map V.ref ++ [.ref y]))) y := by
        refine ⟨fl, _, tab.fix f9, ?_⟩
        rw [decide_eq_true rfl, Bool.true_and]
        refine decide_eq_false fun e => ?_
        unfold tellN at e
        rw [List.map_cons, List.map_cons, List.map_cons, List.map_cons] at e
        have e1 : tell fl v0 = tell fl (v0 + 1) := (List.cons.inj (List.cons.inj e).1).1
        unfold tell at e1
        by_cases z : fl = 0
        · rw [if_pos z, if_pos z] at e1
          omega
        · rw [if_neg z, if_neg z] at e1
          have h2 : 2 ≤ fl := by
            simp only [fields, List.mem_cons, List.not_mem_nil, or_false] at hf
            omega
          have m1 := Int.emod_nonneg v0 z
          have m2 := Int.emod_lt_of_pos v0 (by omega : 0 < fl)
          have m3 : (v0 + 1) % fl = (v0 % fl + 1) % fl := by rw [Int.emod_add_emod]
          rw [m3] at e1
          have gen : ∀ w : Int, 0 ≤ w → w < fl → w = (w + 1) % fl → False := by
            intro w a b c
            by_cases q : w + 1 = fl
            · rw [q, Int.emod_self] at c
              omega
            · rw [Int.emod_eq_of_lt (by omega) (by omega)] at c
              omega
          exact gen _ m1 m2 e1
      have hO9 : upd H8 O (.lst (os.map V.ref ++ [.ref y])) O = some (.lst (os.map V.ref ++ [.ref y])) := upd_same
      have hp9 : upd H8 O (.lst (os.map V.ref ++ [.ref y])) p = some o := by
        rw [upd_ne (Ne.symm ap.p)]
        exact s08 _ _ hp
      have st9 := st.fix ap f09
      generalize upd H8 O (.lst (os.map V.ref ++ [.ref y])) = H9 at f09 dif1 hO9 hp9 st9
      refine ⟨_, rfl, .inl ⟨rfl, _, SqL.of hO9⟩, _, rfl, ?_⟩
      refine ⟨p, o, n, fl, ⟨_, _, _, _, _, _, _, _, _, _, _, _, _, _, _, rfl⟩, hp9, ho, by omega, fun H10 o2 g b10 hp10 ho10 hg10 ng => ?_⟩
      have st10 := st9.but b10
      have hO10 := b10 _ _ ap.p hO9
      refine mk_tab (C := C) (R := fun y H3 => rAppend (.ref O) [y] H3 fun _ H' => Dd.nx _ H') (hs := t0 :: tr) (mss := (v0 :: k1) :: kr) (wd := wn) (.inl st10.lD) (Paired.keepMem st10.rows fun r m ns e => ⟨.inl e.1, e.2⟩) l5 (by simp only [List.length_cons] at l4 ⊢; omega) hg10 fun y2 H11 s11 _ tab2 => ?_
      have hO11 := s11 _ _ hO10
      refine ⟨O, _, .ref y2, rfl, rfl, hO11, Nat.lt_of_le_of_lt (by rw [List.length_append, List.length_map, List.length_singleton]; omega : _ ≤ 11) (by decide), ?_⟩
      have f12 : FixL [p, O] H11 (upd H11 O (.lst ((os.map V.ref ++ [.ref y]) ++ [.ref y2]))) := FixL.upd (.tail _ (.head _)) hO11
      have hpl9 : H9 p = some (.lst [.int g1, .int g2, .int g3]) := by rw [hp9, eo]
      have f912 := ((FixL.but (S := [p, O]) hpl9 (.head _) b10).trans (FixL.same s11)).trans f12
      have f012 := f09.trans f912
      refine kk _ o2 (os ++ [y, y2]) f012 (by rw [upd_ne (Ne.symm ap.p)]; exact s11 _ _ hp10) (ho10.mono (by omega)) (by rw [upd_same, List.map_append, List.append_assoc]; rfl) (by rw [List.length_append]; exact Nat.le_refl _) fun z m => ?_
      rcases List.mem_append.mp m with m | m
      · exact (hd z m).fix f012
      · rcases List.mem_cons.mp m with rfl | m
        · exact dif1.fix f912
        · rw [List.mem_singleton.mp m]
          exact ⟨g, _, tab2.fix f12, by rw [decide_eq_false (Ne.symm ng), Bool.false_and]⟩
    case one =>
      rintro σ H0 R ⟨p, D, q, ts, rs, mss, nss, wn, fl, ⟨v1, v2, v3, v4, v5⟩, st, hf, kk⟩
      have l1 := Paired.length st.rows
      have l2 := Paired.length st.qr
      have l3 := st.len
      have l4 := st.few
      have l5 := st.thin
      refine ⟨_, v4, q, _, rfl, st.lq, _, _, rfl, rfl, _, rfl, ?_⟩
      rw [decide_eq_true (by rw [List.length_map]; omega)]
      refine iteT ⟨_, v4, Nat.zero_le _, fun l0 nl0 => ?_⟩
      have s1 := same_upd nl0 (o := .lst [])
      have st1 := st.same s1
      refine ⟨_, _, ldp_tab st1.lq st1.qr, .lst (SqL.of upd_same) .nil, shaped_ltab _, rfl, _, rfl, ?_⟩
      rw [eqv_none]
      cases nss with
      | nil =>
        have l2 : rs.length = 0 := l2
        have em : mss = [] := List.length_eq_zero_iff.mp (by omega)
        refine iteF ⟨Nat.le_of_ble_eq_true rfl, fun a1 n1 => ⟨Nat.le_of_ble_eq_true rfl, fun a2 n2 => ⟨_, v3, ?_⟩⟩⟩
        have u1 := same_upd n1 (o := .lst [.int 1])
        have u2 := same_upd n2 (o := .lst [.ref a1])
        refine mk_tab (hs := [a1]) (mss := [[1]]) (wd := 1) (.inl upd_same) (.cons ⟨.inl (u2 _ _ upd_same), rfl⟩ .nil) (by decide) (Nat.le_of_ble_eq_true rfl) hf fun x H2 s2 _ tab => kk _ _ (((s1.trans u1).trans u2).trans s2) ⟨fl, [[1]], tab, ?_⟩
        rw [em, decide_eq_true rfl, Bool.true_and]
        exact decide_eq_false (by simp [tellN])
      | cons n0 nr0 =>
        refine iteT ⟨_, v5, Nat.le_of_ble_eq_true rfl, fun a1 n1 => ⟨_, v2, a1, (wn : Int), [.int 0], rfl, rfl, upd_same, by omega, by omega, ?_, fun a2 n2 => ⟨Nat.le_of_ble_eq_true rfl, fun a3 n3 => ?_⟩⟩⟩
        · rw [List.length_singleton, Nat.one_mul]
          exact Nat.le_trans (by omega : _ ≤ 100) (by decide)
        have u1 := same_upd n1 (o := .lst [.int 0])
        have u2 := same_upd n2 (o := .lst (List.replicate (wn : Int).toNat [V.int 0]).flatten)
        have u3 := same_upd n3 (o := .lst [.ref a2])
        have u123 := ((s1.trans u1).trans u2).trans u3
        have st3 := st.same u123
        have h2 := u3 _ _ (upd_same (H := upd (upd H0 l0 (.lst [])) a1 (.lst [.int 0])) (a := a2) (o := .lst (List.replicate (wn : Int).toNat [V.int 0]).flatten))
        refine ⟨D, a3, _, _, rfl, rfl, st3.lD, upd_same, ?_, fun a4 n4 => ⟨_, v3, ?_⟩⟩
        · exact Nat.le_trans (by rw [List.length_map, List.length_singleton]; omega : _ ≤ 100) (by decide)
        have u4 := same_upd n4 (o := .lst (ts.map V.ref ++ [.ref a2]))
        have st4 := st3.same u4
        have flat : (List.replicate (wn : Int).toNat [V.int 0]).flatten = (List.replicate wn (0 : Int)).map V.int := by
          rw [Int.toNat_natCast]
          exact flat_zero wn
        refine mk_tab (hs := ts ++ [a2]) (mss := mss ++ [List.replicate wn 0]) (wd := wn) (.inl (by rw [upd_same, List.map_append]; rfl)) (Paired.snoc (Paired.keepMem st4.rows fun r m ns e => ⟨.inl e.1, e.2⟩) ⟨.inl ?_, List.length_replicate ..⟩) st.thin (by rw [List.length_append, List.length_singleton]; omega) hf fun x H2 s2 _ tab => kk _ _ ((u123.trans u4).trans s2) ⟨fl, _, tab, ?_⟩
        · exact (u4 _ _ h2).trans (congrArg (fun l => some (HO.lst l)) flat)
        · rw [decide_eq_true rfl, Bool.true_and]
          refine decide_eq_false fun e => ?_
          have := congrArg List.length e
          unfold tellN at this
          rw [List.length_map, List.length_map, List.length_append, List.length_singleton] at this
          omega
    case wid =>
      rintro σ H0 R ⟨q, rs, nss, wn, v4, v2, hq, hr0, kk⟩
      refine ⟨_, v4, Nat.zero_le _, fun l0 nl0 => ?_⟩
      have s1 := same_upd nl0 (o := .lst [])
      refine ⟨_, _, ldp_tab (s1 _ _ hq) (Paired.keepMem hr0 fun r m ns h => s1 _ _ h), .lst (SqL.of upd_same) .nil, shaped_ltab _, rfl, _, rfl, ?_⟩
      rw [eqv_none]
      cases nss with
      | nil => exact iteF (kk _ s1)
      | cons a b =>
        refine iteT ⟨_, v2, ?_⟩
        have h := kk _ s1
        rw [if_neg (by simp)] at h
        exact h
    case tab =>
      rintro σ H0 R ⟨p, a, o, n, fl, wd, hs, mss, v1, v6, v3, hp, ho, hn, ha, hR, hw, hl, hf, nap, hsp, q⟩
      refine ⟨_, v1, p, o, n, 2, rfl, hp, ho, by omega, by decide, by decide, fun d o2 d0 d1 ho2 => ?_⟩
      have ba : But p H0 (upd H0 p o2) := But.upd
      have hp2 : upd H0 p o2 p = some o2 := upd_same
      generalize upd H0 p o2 = H2 at ba hp2
      have ha2 := ba _ _ nap ha
      have hR2 : RowsAt H2 wd hs mss := RowsAt.keep hR fun r m u e => ba _ _ (hsp r m) e
      have make : ∀ (H3 : Hp) (b : Addr), Same H2 H3 → Sq H3 b (hs.map V.ref) → ∀ x dx, H3 x = none → H3 dx = none → dx ≠ x → spInit1 C ([V.ref x] ++ [.ref b, .int fl]) (upd (upd H3 dx (.own x)) x (.ins C dx [])) (fun v H4 => v = .non ∧ R (.ref x) H4) E0 := by
        intro H3 b s3 hb x dx hx hdx ne
        have s4 : Same H3 (upd (upd H3 dx (.own x)) x (.ins C dx [])) := same_new hx (same_upd hdx)
        have s24 := s3.trans s4
        have hR4 := RowsAt.keep hR2 fun r _ u e => s24 _ _ e
        refine ⟨x, b, dx, fl, wd, hs, mss, rfl, upd_same, fun e => ?_, hb.same s4, hR4, fun r m e => ?_, hw, hl, hf, fun H5 b5 tab => ⟨rfl, ?_⟩⟩
        · rcases hb with h | h <;> (rw [← e, hx] at h; cases h)
        · obtain ⟨ks, _, h, _⟩ := paired_mem hR2 m
          rw [e] at h
          rcases h with h | h <;> (have h := s3 _ _ h; rw [hx] at h; cases h)
        · have xp : x ≠ p := fun e => by
            rw [e, s3 _ _ hp2] at hx
            cases hx
          have s25 : ∀ c u, H2 c = some u → H5 c = some u := fun c u e => b5 c u (fun z => by
            have h := s3 _ _ e
            rw [z, hx] at h
            cases h) (s24 _ _ e)
          exact q x H5 o2 (ba.trans fun c u _ e => s25 c u e) (s25 _ _ hp2) ho2 (ba.free hp2 (s3.free hx)) xp tab
      refine ⟨rfl, _, rfl, ?_⟩
      by_cases e : d = 0
      · rw [decide_eq_true (congrArg V.int e)]
        exact iteT ⟨_, v6, _, v3, fun x dx hx hdx ne => make H2 a same_refl (.inl ha2) x dx hx hdx ne⟩
      · rw [decide_eq_false fun h => e (V.int.inj h)]
        refine iteF ⟨_, v6, a, _, rfl, .inl ⟨SqL.of ha2, fun b nb => ⟨_, v3, fun x dx hx hdx ne => make _ b (same_upd nb) (.inr upd_same) x dx hx hdx ne⟩⟩⟩
    refine ⟨_, rfl, a, ns, rfl, hS, fun H1 p o s1 np hp ho => ?_⟩
    refine ⟨_, rfl, p, o, 0, 13, rfl, hp, ho, by decide, by decide, by decide, fun wd o2 wd0 wd1 ho2 => ?_⟩
    generalize hH2 : upd H1 p o2 = H2
    have hp2 : H2 p = some o2 := by rw [← hH2, upd_same]
    refine ⟨_, rfl, p, o2, 1, rfl, hp2, ho2, by decide, fun H3 fl o3 b3 hp3 ho3 hf => ?_⟩
    refine ⟨Nat.le_of_ble_eq_true rfl, fun t nt => ?_⟩
    have s4 : Same H3 (upd H3 t (.tup [.int wd, .int fl])) := same_upd nt
    refine ⟨t, [.int wd, .int fl], rfl, .inl (.inl upd_same), rfl, .int wd, [.int fl], rfl, .int fl, [], rfl, rfl, ?_⟩
    generalize hH4 : upd H3 t (.tup [.int wd, .int fl]) = H4
    have hp4 : H4 p = some o3 := by rw [← hH4]; exact s4 _ _ hp3
    obtain ⟨wn, rfl⟩ : ∃ wn : Nat, wd = wn := ⟨wd.toNat, by omega⟩
    refine ⟨_, rfl, _, rfl, _, rfl, p, o3, 2, 21, rfl, hp4, ho3, by decide, by decide, by decide, fun m o5 m0 m1 ho5 => ?_⟩
    obtain ⟨mn, rfl⟩ : ∃ mn : Nat, m = mn := ⟨m.toNat, by omega⟩
    generalize hH5 : upd H4 p o5 = H5
    have hp5 : H5 p = some o5 := by rw [← hH5, upd_same]
    refine ⟨p, o5, 3, wn, mn, rfl, hp5, ho5, by decide, by omega, by omega, fun H6 q rs nss o6 b6 hp6 ho6 hq6 hrs hrl nq6 nqp hfr => ?_⟩
    have e6 : Same H6 H6 := same_refl
    refine ⟨_, rfl, q, rfl, ⟨_, SqL.of hq6⟩, fun D nD => comp_listI (fun j ys G => But p H6 G ∧ G D = some (.lst ys) ∧ (∃ o', G p = some o' ∧ SrcL (3 + 40 * mn + 12 * j) o') ∧ ∃ (ts : List Addr) (mss : List (List Int)), ys = ts.map V.ref ∧ mss.length = j ∧ LRows G wn (10 ^ 50) ts mss ∧ ∀ t ∈ ts, t ≠ D ∧ t ≠ p)
      ⟨But.same (same_upd nD), upd_same, ⟨o6, same_upd nD _ _ hp6, ho6⟩, [], [], rfl, rfl, .nil, fun _ h => nomatch h⟩ (fun _ _ _ h => SqL.of (h.1 _ _ nqp hq6)) (by rw [List.length_map]; omega) (fun _ => rfl) ?_ ?_⟩
    · rintro j x ys G hx ⟨bG, _, ⟨oj, hpj, hoj⟩, ts, mss, rfl, hml, hms, hts⟩ hGD R hR
      obtain ⟨r, rfl, hr0⟩ := ref_at hx
      obtain ⟨ks, hks, hrow, hlen, hbd⟩ := paired_get hrs hr0
      have hrG := bG _ _ (hfr r (List.mem_of_getElem? hr0)).2.1 hrow
      have hj : j < mn := by
        have := (List.getElem?_eq_some_iff.mp hr0).1
        omega
      have nDp : D ≠ p := fun e => by
        rw [e, hp6] at nD
        cases nD
      refine ⟨_, rfl, r, rfl, ⟨_, SqL.of hrG⟩, fun D2 nD2 => comp_listD (fun i G' => But p G G' ∧ ∃ o', G' p = some o' ∧ SrcL (3 + 40 * mn + 12 * j + i) o') (fun _ y => ∃ v, y = .int v ∧ v.natAbs ≤ 10 ^ 50)
        ⟨fun _ _ _ e => e, oj, hpj, hoj⟩ ?_ (fun i G' h => SqL.of (h.1 _ _ (hfr r (List.mem_of_getElem? hr0)).2.1 hrG)) (by rw [List.length_map]; omega) (fun _ => rfl) ?_ ?_⟩
      · rintro i G' u ⟨b2, o', h3, s3⟩
        have n2p : D2 ≠ p := fun e => by
          rw [e, hpj] at nD2
          cases nD2
        refine ⟨fun b x nb e => ?_, o', by rw [upd_ne (Ne.symm n2p)]; exact h3, s3⟩
        rw [upd_ne (ne_of_none e nD2)]
        exact b2 _ _ nb e
      · rintro i x G' cur hx2 ⟨b2, o', h3, s3⟩ hcur R2 hR2
        obtain ⟨v, rfl, hv⟩ := int_at hx2
        have hvb := hbd v (List.mem_of_getElem? hv)
        have hi : i < 12 := by
          have := (List.getElem?_eq_some_iff.mp hv).1
          omega
        have n2p : D2 ≠ p := fun e => by
          rw [e, hpj] at nD2
          cases nD2
        refine ⟨_, rfl, _, rfl, 10, 19, rfl, rfl, ⟨by decide, by decide +kernel⟩, 10, 18, rfl, rfl, ⟨by decide, by decide +kernel⟩, _, _, rfl, rfl, _, _, rfl, rfl, Nat.le_of_ble_eq_true rfl, fun l hl0 => ?_⟩
        have nlp : l ≠ p := fun e => by
          rw [e, h3] at hl0
          cases hl0
        refine ⟨p, l, o', _, [.int 1, .int 1, .int (10 ^ 19), .int (0 - 10 ^ 18 - 1)], rfl, same_upd hl0 _ _ h3, s3, by omega, upd_same, by simp, by decide, Ne.symm nlp, fun x o5 hx5 ho5 => ?_⟩
        obtain ⟨c, rfl, hc⟩ : ∃ c : Int, x = .int c ∧ c.natAbs ≤ 10 ^ 19 := by
          simp only [List.mem_cons, List.not_mem_nil, or_false] at hx5
          rcases hx5 with rfl | rfl | rfl | rfl
          · exact ⟨1, rfl, by decide⟩
          · exact ⟨1, rfl, by decide⟩
          · exact ⟨10 ^ 19, rfl, by decide⟩
          · exact ⟨0 - 10 ^ 18 - 1, rfl, by decide⟩
        have hm20 : 3 ^ mn ≤ 3 ^ 20 := Nat.pow_le_pow_right (by decide) (by omega)
        refine ⟨v, c, rfl, rfl, wide_mul (a := 100) (b := 100) (by omega) (by omega) (by decide) (by decide) (by decide), hR2 _ _ ⟨_, rfl, ?_⟩ ⟨(b2.trans (But.same (same_upd hl0))).trans But.upd, o5, upd_same, ho5⟩ ?_⟩
        · rw [Int.natAbs_mul]
          have h7 : v.natAbs ≤ 2 * 3 ^ 20 := by omega
          have h8 := Nat.mul_le_mul h7 hc
          omega
        · rw [upd_ne n2p, upd_ne]
          exact ne_of_none hcur hl0
      · rintro G' ys ⟨b2, o', h3, s3⟩ hD2 gv
        obtain ⟨ms, rfl, hml2, hmb⟩ := gv.ints
        rw [List.length_map, hlen] at hml2
        have n2D : D2 ≠ D := fun e => by
          rw [e, hGD] at nD2
          cases nD2
        have n2p : D2 ≠ p := fun e => by
          rw [e, hpj] at nD2
          cases nD2
        have nG : ∀ t ∈ ts, upd G' D (.lst (ts.map V.ref ++ [.ref D2])) t = G' t := fun t m => upd_ne (hts t m).1
        refine hR _ _ (b2 _ _ nDp hGD) ⟨But.new (bG.trans b2) nD, upd_same, ⟨o', by rw [upd_ne (Ne.symm nDp)]; exact h3, s3.mono (by rw [List.length_map]; omega)⟩, ts ++ [D2], mss ++ [ms], by rw [List.map_append]; rfl, by rw [List.length_append, hml]; rfl, ?_, ?_⟩
        · refine Paired.snoc (Paired.keepMem hms fun t m ns h => ⟨?_, h.2⟩) ⟨by rw [upd_ne n2D]; exact hD2, hml2, hmb⟩
          rw [nG t m]
          exact b2 _ _ (hts t m).2 h.1
        · intro t m
          rcases List.mem_append.mp m with m | m
          · exact hts t m
          · rw [List.mem_singleton.mp m]
            exact ⟨n2D, n2p⟩
    · rintro G ys ⟨bG, _, ⟨oj, hpj, hoj⟩, ts, mss, rfl, hml, hms, hts⟩ hGD hlen
      have rll : (rs.map V.ref).length = mn := by rw [List.length_map, hrl]
      rw [rll] at hml
      have hg := fields_ge hf
      have told0 : ∀ n : Int, (if decide (0 < fl) = true then n % fl else n) = tell fl n := by
        intro n
        unfold tell
        by_cases z : fl = 0
        · rw [z]
          rfl
        · rw [if_neg z, decide_eq_true (by omega), if_pos rfl]
      have srcLst : ∀ {n o}, SrcL n o → ∃ g1 g2 g3, o = .lst [.int g1, .int g2, .int g3] := fun ⟨a, b, c, e, _⟩ => ⟨a, b, c, e⟩
      have nDp0 : D ≠ p := fun e => by
        rw [e, hp6] at nD
        cases nD
      refine ⟨_, rfl, D, rfl, ⟨_, SqL.of hGD⟩, fun D5 nD5 => comp_listI (fun j ys G' => But p G G' ∧ (∃ o', G' p = some o' ∧ SrcL (3 + 40 * mn + 12 * mn + j) o') ∧ ∃ hs : List Addr, ys = hs.map V.ref ∧ Paired (fun h ns => Sq G' h (ns.map V.int) ∧ ns.length = wn) hs (mss.take j) ∧ ∀ h ∈ hs, h ≠ D5 ∧ h ≠ p ∧ G h = none)
        ⟨But.same (same_upd nD5), ⟨oj, same_upd nD5 _ _ hpj, hoj.mono (by rw [rll]; omega)⟩, [], rfl, .nil, fun _ h => nomatch h⟩ (fun _ _ _ h => SqL.of (h.1 _ _ nDp0 hGD)) (by have := Paired.length hms; rw [List.length_map]; omega) (fun _ => rfl) ?_ ?_⟩
      · rintro j x ys G' hx ⟨bG', ⟨o', hp', ho'⟩, hs, rfl, hhs, hhn⟩ hG5 R hR
        obtain ⟨r, rfl, hr0⟩ := ref_at hx
        obtain ⟨ks, hks, hrow, hkl, hkb⟩ := paired_get hms hr0
        have rp : r ≠ p := (hts r (List.mem_of_getElem? hr0)).2
        have hj : j < mn := by
          have := (List.getElem?_eq_some_iff.mp hks).1
          omega
        refine ⟨_, rfl, p, o', _, 2, rfl, hp', ho', by omega, by decide, by decide, fun d o2 d0 d1 ho2 => ?_⟩
        have b2 : But p G' (upd G' p o2) := But.upd
        have hp2 : upd G' p o2 p = some o2 := upd_same
        generalize upd G' p o2 = G2 at b2 hp2
        have hr2 := b2 _ _ rp (bG' _ _ rp hrow)
        have n5p : D5 ≠ p := fun e => by
          rw [e, hpj] at nD5
          cases nD5
        have fin : ∀ l (u : HO), (u = .lst (ks.map V.int) ∨ u = .tup (ks.map V.int)) → G2 l = none → R (.ref l) (upd G2 l u) := by
          intro l u hu nl
          have s3 := same_upd nl (o := u)
          have hD3 := s3 _ _ (b2 _ _ n5p hG5)
          have l5 : l ≠ D5 := fun e => by
            rw [e, b2 _ _ n5p hG5] at nl
            cases nl
          have lp : l ≠ p := fun e => by
            rw [e, hp2] at nl
            cases nl
          have bAll : But p G (upd (upd G2 l u) D5 (.lst (hs.map V.ref ++ [.ref l]))) := But.new (bG'.trans (b2.trans (But.same s3))) nD5
          refine hR _ _ hD3 ⟨bAll, ⟨o2, by rw [upd_ne (Ne.symm n5p)]; exact s3 _ _ hp2, ho2⟩, hs ++ [l], by rw [List.map_append]; rfl, ?_, ?_⟩
          · rw [List.take_succ, hks]
            refine Paired.snoc (Paired.keepMem hhs fun h m ns q => ⟨?_, q.2⟩) ⟨?_, hkl⟩
            · have keep : ∀ v, G' h = some v → upd (upd G2 l u) D5 (.lst (hs.map V.ref ++ [.ref l])) h = some v := fun v e => by
                rw [upd_ne (hhn h m).1]
                exact s3 _ _ (b2 _ _ (hhn h m).2.1 e)
              exact q.1.elim (fun e => .inl (keep _ e)) (fun e => .inr (keep _ e))
            · have e : upd (upd G2 l u) D5 (.lst (hs.map V.ref ++ [.ref l])) l = some u := by rw [upd_ne l5, upd_same]
              rcases hu with rfl | rfl
              · exact .inl e
              · exact .inr e
          · intro h m
            rcases List.mem_append.mp m with m | m
            · exact hhn h m
            · rw [List.mem_singleton.mp m]
              exact ⟨l5, lp, (bG'.trans b2).free hp2 nl⟩
        refine ⟨rfl, _, rfl, ?_⟩
        by_cases e : d = 0
        · rw [decide_eq_true (congrArg V.int e)]
          exact iteT ⟨_, rfl, r, _, rfl, .inl (SqL.of hr2), fun l nl => fin l _ (.inl rfl) nl⟩
        · rw [decide_eq_false fun h => e (V.int.inj h)]
          exact iteF ⟨_, rfl, r, _, rfl, .inl ⟨SqL.of hr2, fun l nl => fin l _ (.inr rfl) nl⟩⟩
      rintro G5 ys ⟨b5, ⟨o5', hp5', ho5'⟩, hs, rfl, hhs, hhn⟩ hG5 hlen5
      have tsl : ts.length = mss.length := Paired.length hms
      rw [List.length_map, tsl, List.take_length] at hhs
      rw [List.length_map, tsl] at ho5'
      have hsl : hs.length = mss.length := Paired.length hhs
      have n5p : D5 ≠ p := fun e => by
        rw [e, hpj] at nD5
        cases nD5
      refine ⟨p, D5, o5', _, fl, wn, hs, mss, rfl, rfl, rfl, hp5', ho5', by omega, hG5, hhs, by omega, by omega, hf, n5p, fun h m => (hhn h m).2.1, fun x G6 o6' b6' hp6' ho6' nx nxp tab => ?_⟩
      have hG56 := b6' _ _ n5p hG5
      refine ⟨_, rfl, D5, rfl, ⟨_, SqL.of hG56⟩, for_it walk_list (fun i σ G' => ∃ c8 : Option V, σ = [some (.ref a), some (.ref p), some (.int (wn : Int)), some (.int fl), some (.ref q), some (.ref D), some (.ref D5), some (.ref x), c8, none, none, none, none, none, none, none, none] ∧ FixL hs G6 G' ∧ ∀ h ∈ hs, ∃ xs, Sq G' h xs ∧ xs.length ≤ 20 + i)
        ⟨none, rfl, FixL.same same_refl, fun h m => ?_⟩ (fun i σ G' _ ⟨_, _, fx, _⟩ => SqL.of (fx _ _ hG56 (.inr fun m => (hhn D5 m).1 rfl))) ?_ ?_⟩
      · obtain ⟨ns, _, e, hl⟩ := paired_mem hhs m
        refine ⟨ns.map V.int, e.elim (fun e => .inl (b6' _ _ (hhn h m).2.1 e)) (fun e => .inr (b6' _ _ (hhn h m).2.1 e)), ?_⟩
        rw [List.length_map]
        omega
      · rintro i y σ G' G'' hi ⟨c8, rfl, fx, hsq⟩ ⟨rfl, hy⟩
        obtain ⟨h, rfl, hh0⟩ := ref_at hy
        have hm := List.mem_of_getElem? hh0
        obtain ⟨xs, hsx, hxl⟩ := hsq h hm
        have hi60 : i ≤ 60 := by
          rw [List.length_map] at hi
          omega
        rcases hsx with e | e
        · refine ⟨_, rfl, _, _, _, _, true, rfl, .ty _, .base (.lst e), by kernel_rfl, true, rfl, iteT ?_⟩
          refine ⟨_, rfl, .inl ⟨rfl, _, SqL.of e⟩, h, xs, .str "late", rfl, rfl, e, Nat.lt_of_le_of_lt (by omega : _ ≤ 80) (by decide), ?_⟩
          refine ⟨_, rfl, fx.trans (FixL.upd hm e), fun h2 m2 => ?_⟩
          by_cases z : h2 = h
          · subst z
            exact ⟨_, .inl upd_same, by rw [List.length_append, List.length_singleton]; omega⟩
          · obtain ⟨xs2, hsx2, hxl2⟩ := hsq h2 m2
            exact ⟨xs2, hsx2.elim (fun e => .inl (by rw [upd_ne z]; exact e)) (fun e => .inr (by rw [upd_ne z]; exact e)), by omega⟩
        · refine ⟨_, rfl, _, _, _, _, false, rfl, .ty _, .base (.tup e), by kernel_rfl, false, rfl, iteF ?_⟩
          exact ⟨_, rfl, fx, fun h2 m2 => by obtain ⟨xs2, a1, a2⟩ := hsq h2 m2; exact ⟨xs2, a1, by omega⟩⟩
      rintro σ G7 ⟨c8, rfl, fx, _⟩
      have hG57 := fx _ _ hG56 (.inr fun m => (hhn D5 m).1 rfl)
      refine ⟨_, rfl, .inl ⟨rfl, _, SqL.of hG57⟩, D5, _, rfl, rfl, hG57, ?_⟩
      have fx8 : FixL (D5 :: hs) G6 (upd G7 D5 (.lst [])) := (fx.mono fun _ m => .tail _ m).trans (FixL.upd (.head _) hG57)
      generalize upd G7 D5 (.lst []) = G8 at fx8
      have tab8 := tab.fix fx8
      have out : ∀ b u, b ≠ p → G b = some u → G8 b = some u := by
        intro b u nb e
        refine fx8 b u (b6' _ _ nb (b5 _ _ nb e)) (.inr fun m => ?_)
        rcases List.mem_cons.mp m with rfl | m
        · rw [e] at nD5
          cases nD5
        · have h := (hhn b m).2.2
          rw [e] at h
          cases h
      have hp8 : G8 p = some o6' := fx8 _ _ hp6' (.inr fun m => by
        rcases List.mem_cons.mp m with e | m
        · exact n5p e.symm
        · exact (hhn p m).2.1 rfl)
      have hD8 := out _ _ nDp0 hGD
      have rows8 : LRows G8 wn (10 ^ 50) ts mss := Paired.keepMem hms fun r m ns h => ⟨out _ _ (hts r m).2 h.1, h.2⟩
      have hq8 : G8 q = some (.lst (rs.map V.ref)) := out _ _ nqp (bG _ _ nqp hq6)
      have npt : pt ≠ p := fun e => by
        have h := s1 _ _ hPt
        rw [e, hp] at h
        obtain ⟨g1, g2, g3, eo, _⟩ := ho
        rw [eo] at h
        cases h
      have pt8 : G8 pt = some (.tbl #[]) := by
        have e1 : H2 pt = some (.tbl #[]) := by
          rw [← hH2, upd_ne npt]
          exact s1 _ _ hPt
        have e4 : H4 pt = some (.tbl #[]) := by
          rw [← hH4]
          exact s4 _ _ (b3 _ _ npt e1)
        have e5 : H5 pt = some (.tbl #[]) := by
          rw [← hH5, upd_ne npt]
          exact e4
        exact out _ _ npt (bG _ _ npt (b6 _ _ npt e5))
      obtain ⟨dx, tt, tts, x1, x2, x3⟩ := id tab8
      have mlen : mss.length = mn := hml
      refine ⟨_, rfl, D, rfl, ⟨_, SqL.of hD8⟩, fun D9 nD9 => comp_listI (fun j ys G' => Same G8 G' ∧ ∃ us : List Addr, ys = us.map V.ref ∧ Paired (fun u ns => G' u = some (.tup ((ns.map (tell fl)).map V.int))) us (mss.take j) ∧ ∀ u ∈ us, u ≠ D9)
        ⟨same_upd nD9, [], rfl, .nil, fun _ h => nomatch h⟩ (fun _ _ _ h => SqL.of (h.1 _ _ hD8)) (by rw [List.length_map]; omega) (fun _ => rfl) ?_ ?_⟩
      · rintro j y ys G' hy ⟨sG, us, rfl, hus, hn9⟩ hG9 R hR
        obtain ⟨r, rfl, hr0⟩ := ref_at hy
        obtain ⟨ks, hks, hrow, hkl, hkb⟩ := paired_get rows8 hr0
        refine ⟨_, rfl, _, rfl, r, fl, ks, rfl, sG _ _ hrow, by omega, hg.1, fun G2 t s2 nt ht => ?_⟩
        have nt9 : t ≠ D9 := fun e => by
          rw [e, hG9] at nt
          cases nt
        refine hR _ _ (s2 _ _ hG9) ⟨same_new nD9 (sG.trans s2), us ++ [t], by rw [List.map_append]; rfl, ?_, ?_⟩
        · rw [List.take_succ, hks]
          refine Paired.snoc (Paired.keepMem hus fun u m ns h => ?_) (by rw [upd_ne nt9]; exact ht)
          rw [upd_ne (hn9 u m)]
          exact s2 _ _ h
        · intro u m
          rcases List.mem_append.mp m with m | m
          · exact hn9 u m
          · rw [List.mem_singleton.mp m]
            exact nt9
      rintro G9 ys ⟨s9, us, rfl, hus, hn9⟩ hG9 hlen9
      rw [List.length_map, tsl, List.take_length] at hus
      have x19 := s9 _ _ x1
      refine ⟨_, rfl, x, dx, _, rfl, x19, x, dx, _, _, rfl, x19, rfl, _, rfl, rfl, _, rfl, ?_⟩
      rw [decide_eq_true (show V.int fl = V.int fl from rfl)]
      refine iteF ?_
      have hqrows : ∀ {G' : Hp}, Same G8 G' → Dp K G' (.ref q) (ltabD nss) := fun {G'} s' => ldp_tab (s' _ _ hq8) (Paired.keepMem hrs fun r m ns h => s' _ _ (out _ _ (hfr r m).2.1 (bG _ _ (hfr r m).2.1 h.1)))
      have rsl : rs.length = nss.length := Paired.length hrs
      have neq : (nss.isEmpty = true) ↔ mn = 0 := by
        rw [List.isEmpty_iff]
        constructor
        · intro e
          rw [e] at rsl
          simp at rsl
          rw [rsl] at hrl
          simpa using hrl.symm
        · intro e
          exact List.length_eq_zero_iff.mp (by omega)
      have hw0 : (mss.headD []).length = if mn = 0 then 0 else wn := by
        cases mss with
        | nil => rw [if_pos (by simpa using mlen.symm)]; rfl
        | cons m0 mr =>
          rw [if_neg (by rw [← mlen]; simp)]
          cases rows8 with
          | cons h _ => exact h.2.1
      refine ⟨_, rfl, x, dx, _, rfl, x19, x, dx, _, _, rfl, x19, rfl, ?_⟩
      have hqr9 : Paired (fun r ns => G9 r = some (.lst (ns.map V.int))) rs nss := Paired.keepMem hrs fun r m ns h => s9 _ _ (out _ _ (hfr r m).2.1 (bG _ _ (hfr r m).2.1 h.1))
      refine ⟨q, rs, nss, wn, rfl, rfl, s9 _ _ hq8, hqr9, fun Ga sa => ?_⟩
      have wideq : V.int ((mss.headD []).length : Int) = V.int (if nss = [] then 0 else (wn : Int)) := by
        rw [hw0]
        by_cases z : mn = 0
        · have : nss = [] := List.isEmpty_iff.mp (neq.mpr z)
          rw [if_pos z, if_pos this]
          rfl
        · have : nss ≠ [] := fun e => z (neq.mp (List.isEmpty_iff.mpr e))
          rw [if_neg z, if_neg this]
      refine ⟨rfl, _, rfl, ?_⟩
      rw [decide_eq_true wideq]
      refine iteF ?_
      have sA := s9.trans sa
      refine ⟨_, rfl, x, dx, _, mss.length, rfl, sA _ _ x1, ⟨fl, mss, tab8.keep sA, rfl⟩, by omega, fun Gb sb => ?_⟩
      have sB := sA.trans sb
      refine ⟨_, rfl, q, _, rfl, sB _ _ hq8, rfl, _, rfl, ?_⟩
      rw [decide_eq_true (show V.int (mss.length : Int) = V.int (((rs.map V.ref).length : Nat) : Int) by rw [List.length_map, hrl, mlen])]
      refine iteF ?_
      -- the rows as they are told
      have tabB := tab8.keep sB
      have xB := sB _ _ x1
      have s9B := sa.trans sb
      refine ⟨_, rfl, q, _, rfl, sB _ _ hq8, (mn : Int), ?_, by omega, by omega, fun D11 nD11 => each_range (lo := 0) (n := mn) (fun j ys G' => Same Gb G' ∧ ∃ vs : List Addr, ys = vs.map V.ref ∧ Paired (fun u ns => G' u = some (.tup ((ns.map (tell fl)).map V.int))) vs (mss.take j) ∧ ∀ u ∈ vs, u ≠ D11) ⟨same_upd nD11, [], rfl, .nil, fun _ h => nomatch h⟩ (by omega) (fun _ => rfl) ?_ ?_⟩
      · rw [List.length_map, hrl]
      · rintro j ys G' hj ⟨sG, vs, rfl, hvs, hv11⟩ hG11 R hR
        have xG := sG _ _ xB
        have tabG := tabB.keep sG
        refine ⟨_, rfl, x, dx, _, rfl, xG, rfl, _, rfl, x, .int (0 + (j : Nat)), fl, mss, rfl, tabG, any_int, fun i ns e hns t ht => ?_, fun bad => ?_⟩
        · have ei : i = j := by
            have := V.int.inj e
            omega
          subst ei
          have t11 : t ≠ D11 := fun e => by
            rw [e, hG11] at ht
            cases ht
          refine hR _ _ hG11 ⟨same_new nD11 sG, vs ++ [t], by rw [List.map_append]; rfl, ?_, ?_⟩
          · rw [List.take_succ, hns]
            refine Paired.snoc (Paired.keepMem hvs fun u m ns h => ?_) (by rw [upd_ne t11]; exact ht)
            rw [upd_ne (hv11 u m)]
            exact h
          · intro u m
            rcases List.mem_append.mp m with m | m
            · exact hv11 u m
            · rw [List.mem_singleton.mp m]
              exact t11
        · have h : (decide ((0 : Int) ≤ 0 + (j : Nat)) && decide ((0 : Int) + (j : Nat) ≤ (mss.length : Int) - 1)) = false := bad
          rw [decide_eq_true (by omega), decide_eq_true (by omega)] at h
          cases h
      rintro G11 ys ⟨s11, vs, rfl, hvs, _⟩ hG11 _
      rw [← mlen, List.take_length] at hvs
      have s911 := s9B.trans s11
      refine ⟨_, rfl, .list ((tellN fl mss).map rowD), .list ((tellN fl mss).map rowD), .lst (SqL.of hG11) (dp_rows (ToldAt.tups hvs)), .lst (SqL.of (s911 _ _ hG9)) (dp_rows (ToldAt.tups (Paired.keepMem hus fun u m ns h => s911 _ _ h))), shaped_ltup _, shaped_ltup _, ?_⟩
      rw [SeqAt.eqv_refl _ (ltup_lay _)]
      refine ⟨_, rfl, iteF ?_⟩
      have s811 := sB.trans s11
      have hp11 := s811 _ _ hp8
      have hq11 := s811 _ _ hq8
      refine ⟨_, rfl, _, rfl, q, _, rfl, hq11, 1, rfl, Nat.le_of_ble_eq_true rfl, fun T nT => ⟨Nat.le_of_ble_eq_true rfl, fun L nL => ⟨10, 20, rfl, rfl, ⟨by decide, by decide +kernel⟩, Nat.le_of_ble_eq_true rfl, fun S nS => ?_⟩⟩⟩
      have uT := same_upd nT (o := .tup [.int 0])
      generalize hGT : upd G11 T (.tup [.int 0]) = GT12 at uT nL nS
      have hT : GT12 T = some (.tup [.int 0]) := by rw [← hGT, upd_same]
      have uL := same_upd nL (o := .lst [.int 0])
      generalize hGL : upd GT12 L (.lst [.int 0]) = GL12 at uL nS
      have hL : GL12 L = some (.lst [.int 0]) := by rw [← hGL, upd_same]
      generalize hGS : upd GL12 S _ = GS12
      have uS : Same GL12 GS12 := by
        rw [← hGS]
        exact same_upd nS
      have hS12 : GS12 S = some (.lst [V.int ((rs.map V.ref).length : Nat), V.int (-1), .non, .str "0", .bl true, .ref T, .ref L, .int (10 ^ 20)]) := by
        rw [← hGS, upd_same]
        rfl
      have uAll := (uT.trans uL).trans uS
      have hpS := uAll _ _ hp11
      have nSp : p ≠ S := fun e => by
        rw [← e, uL _ _ (uT _ _ hp11)] at nS
        cases nS
      refine ⟨p, S, o6', _, _, rfl, hpS, ho6', by omega, hS12, by simp, Nat.le_of_ble_eq_true rfl, nSp, fun od o13 hod ho13 => ?_⟩
      have b13 : But p G11 (upd GS12 p o13) := (But.same uAll).trans But.upd
      have hp13 : upd GS12 p o13 p = some o13 := upd_same
      have nTp : T ≠ p := fun e => by
        rw [e, hp11] at nT
        cases nT
      have nLp : L ≠ p := fun e => by
        rw [e, uT _ _ hp11] at nL
        cases nL
      have hT13 : upd GS12 p o13 T = some (.tup [.int 0]) := by
        rw [upd_ne nTp]
        exact uS _ _ (uL _ _ hT)
      have hL13 : upd GS12 p o13 L = some (.lst [.int 0]) := by
        rw [upd_ne nLp]
        exact uS _ _ hL
      generalize upd GS12 p o13 = G13 at b13 hp13 hT13 hL13
      obtain ⟨dta, hdp, hgood, hany, hbad⟩ : ∃ dta, (∀ H', ExtT G13 H' → Dp K H' od dta) ∧ goodD dta = true ∧ (∀ H', ExtT G13 H' → Any H' od) ∧ inR od 0 ((mss.length : Int) - 1) = false := by
        simp only [List.mem_cons, List.not_mem_nil, or_false] at hod
        rcases hod with rfl | rfl | rfl | rfl | rfl | rfl | rfl | rfl
        · refine ⟨.int ((rs.map V.ref).length : Nat), fun _ _ => .int _, good_int (by omega) (by rw [List.length_map, hrl]; omega), fun _ _ => any_int, ?_⟩
          show (decide ((0 : Int) ≤ ((rs.map V.ref).length : Int)) && decide (((rs.map V.ref).length : Int) ≤ (mss.length : Int) - 1)) = false
          rw [decide_eq_false (show ¬ (((rs.map V.ref).length : Int) ≤ (mss.length : Int) - 1) by rw [List.length_map, hrl]; omega), Bool.and_false]
        · exact ⟨.int (-1), fun _ _ => .int _, by decide +kernel, fun _ _ => any_int, rfl⟩
        · exact ⟨.none, fun _ _ => .non, by decide +kernel, fun _ _ => any_non, rfl⟩
        · exact ⟨.str "0", fun _ _ => .str _, by decide +kernel, fun _ _ => any_str, rfl⟩
        · exact ⟨.bool true, fun _ _ => .bl _, by decide +kernel, fun _ _ => any_bl, rfl⟩
        · exact ⟨.tuple [.int 0], fun H' s => .tup (SqT.of (s _ _ hT13 fun _ e => nomatch e)) (.cons (.int 0) .nil), by decide +kernel, fun H' s => .inr ⟨T, _, rfl, .inr (s _ _ hT13 fun _ e => nomatch e)⟩, rfl⟩
        · exact ⟨.list [.int 0], fun H' s => .lst (SqL.of (s _ _ hL13 fun _ e => nomatch e)) (.cons (.int 0) .nil), by decide +kernel, fun H' s => .inr ⟨L, _, rfl, .inl (s _ _ hL13 fun _ e => nomatch e)⟩, rfl⟩
        · refine ⟨.int (10 ^ 20), fun _ _ => .int _, by decide +kernel, fun _ _ => any_int, ?_⟩
          show (decide ((0 : Int) ≤ 10 ^ 20) && decide ((10 ^ 20 : Int) ≤ (mss.length : Int) - 1)) = false
          rw [decide_eq_false (show ¬ ((10 ^ 20 : Int) ≤ (mss.length : Int) - 1) by omega), Bool.and_false]
      have pt13 : G13 pt = some (.tbl #[]) := b13 _ _ npt (s811 _ _ pt8)
      have xp : x ≠ p := nxp
      have x13 : ∀ b u, b ≠ p → G8 b = some u → G13 b = some u := fun b u nb e => b13 _ _ nb (s811 _ _ e)
      have tab13 : TabAt C G13 x fl mss := by
        obtain ⟨dx, t, ts', h1, h2, h3⟩ := tab8
        obtain ⟨g1, g2, g3, eo⟩ := srcLst ho6'
        have hpl := hp8
        rw [eo] at hpl
        have np1 : ∀ (b : Addr) (vs : List V), G8 b = some (.tup vs) → b ≠ p := fun b vs e z => by
          rw [z, hpl] at e
          cases e
        exact ⟨dx, t, ts', x13 _ _ xp h1, x13 _ _ (np1 _ _ h2) h2, h3.keep fun t m u e => by
          obtain ⟨ns, _, q⟩ := paired_mem h3 m
          rw [q] at e
          cases e
          exact x13 _ _ (np1 _ _ q) q⟩
      have hD13 := x13 _ _ nDp0 hD8
      have rows13 : LRows G13 wn (10 ^ 50) ts mss := Paired.keepMem rows8 fun r m ns h => ⟨x13 _ _ (hts r m).2 h.1, h.2⟩
      have hq13 := x13 _ _ nqp hq8
      have qrows13 : Paired (fun r ns => G13 r = some (.lst (ns.map V.int))) rs nss := Paired.keepMem hrs fun r m ns h => x13 _ _ (hfr r m).2.1 (out _ _ (hfr r m).2.1 (bG _ _ (hfr r m).2.1 h.1))
      -- the job that is refused
      refine ⟨fun t ht => ?_, fun H1 eN T1 t0 n0 => ?_⟩
      · rw [List.mem_singleton.mp ht]
        exact LamX.TabS.nil pt13
      have e1 : ExtT G13 H1 := fun b u e n => eN b u e n
      have u0 := same_upd n0 (o := .tup [V.str "none", V.str ""])
      have e2 := e1.trans (ExtT.same u0)
      have tab2 := tab13.ext e2
      obtain ⟨dx2, t2, ts2, y1, y2, y3⟩ := id tab2
      refine ⟨_, rfl, x, dx2, _, rfl, y1, rfl, _, rfl, x, od, fl, mss, rfl, tab2, hany _ e2, fun i ns e hns t ht => ?_, fun _ d H3 s3 nd hd => ?_⟩
      · subst e
        have hi := (List.getElem?_eq_some_iff.mp hns).1
        have h : (decide ((0 : Int) ≤ (i : Int)) && decide ((i : Int) ≤ (mss.length : Int) - 1)) = false := hbad
        rw [decide_eq_true (by omega), decide_eq_true (by omega)] at h
        cases h
      have e3 := e2.trans (ExtT.same s3)
      refine ⟨rfl, d, od, dta, rfl, hd, rep_good (hdp _ e3) hgood, fun r nr => ?_⟩
      have ur := same_upd nr (o := .tup [V.str "row", V.str dta.shown])
      have e4 := e3.trans (ExtT.same ur)
      have ans : IsAns [V.str "row", V.str dta.shown] := ⟨"row", by decide +kernel, .inl ⟨_, rfl, good_str hgood⟩⟩
      refine ⟨_, rfl, od, dta, rfl, rep_good (hdp _ e4) hgood, Nat.le_of_ble_eq_true rfl, fun r2 nr2 => ans_ne ans (same_upd nr2 _ _ upd_same) upd_same ⟨_, rfl, iteF ?_⟩⟩
      have e5 := e4.trans (ExtT.same (same_upd nr2 (o := .tup [V.str "row", V.str dta.shown])))
      have tab5 := tab13.ext e5
      generalize upd (upd H3 r (.tup [V.str "row", V.str dta.shown])) r2 (.tup [V.str "row", V.str dta.shown]) = G14 at e5 tab5
      obtain ⟨dx5, t5, ts5, z1, z2, z3⟩ := id tab5
      refine ⟨_, rfl, x, dx5, _, rfl, z1, x, dx5, _, _, rfl, z1, rfl, _, _, _, _, false, rfl, .ty _, .base (.int fl), by kernel_rfl, false, rfl, iteF ?_⟩
      have lst14 : ∀ (b : Addr) (vs : List V), G13 b = some (.lst vs) → G14 b = some (.lst vs) := fun b vs e => e5 _ _ e fun _ z => nomatch z
      have hp14 : G14 p = some o13 := by
        obtain ⟨g1, g2, g3, eo⟩ := srcLst ho13
        rw [eo] at hp13 ⊢
        exact lst14 _ _ hp13
      have hD14 := lst14 _ _ hD13
      have rows14 : LRows G14 wn (10 ^ 50) ts mss := Paired.keepMem rows13 fun r m ns h => ⟨lst14 _ _ h.1, h.2⟩
      have hq14 := lst14 _ _ hq13
      have qrows14 : Paired (fun r ns => G14 r = some (.lst (ns.map V.int))) rs nss := Paired.keepMem qrows13 fun r m ns h => lst14 _ _ h
      -- the same rows, told otherwise
      refine ⟨_, rfl, D, rfl, ⟨_, SqL.of hD14⟩, fun D15 nD15 => comp_listI (fun j ys G => But p G14 G ∧ (∃ o', G p = some o' ∧ SrcL (3000 + 12 * j) o') ∧ ∃ (ms : List Addr) (mss' : List (List Int)), ys = ms.map V.ref ∧ Paired (fun m ns => G m = some (.lst (ns.map V.int)) ∧ ns.length = wn) ms mss' ∧ tellN fl mss' = tellN fl (mss.take j) ∧ ∀ m ∈ ms, m ≠ D15 ∧ m ≠ p)
        ⟨But.same (same_upd nD15), ⟨o13, same_upd nD15 _ _ hp14, ho13.mono (by omega)⟩, [], [], rfl, .nil, rfl, fun _ h => nomatch h⟩ (fun _ _ _ h => SqL.of (h.1 _ _ nDp0 hD14)) (by rw [List.length_map]; omega) (fun _ => rfl) ?_ ?_⟩
      · rintro j y ys G hy ⟨bG, ⟨oj', hpj', hoj'⟩, ms, mss', rfl, hms', htl, hmn⟩ hGD R hR
        obtain ⟨r, rfl, hr0⟩ := ref_at hy
        obtain ⟨ks, hks, hrow, hkl, _⟩ := paired_get rows14 hr0
        have rp := (hts r (List.mem_of_getElem? hr0)).2
        have hrG := bG _ _ rp hrow
        have hj : j < 20 := by
          have := (List.getElem?_eq_some_iff.mp hks).1
          omega
        have n15 : D15 ≠ p := fun e => by
          rw [e, hp14] at nD15
          cases nD15
        refine ⟨_, rfl, r, rfl, ⟨_, SqL.of hrG⟩, fun D2 nD2 => comp_listD (fun i G' => But p G G' ∧ ∃ o', G' p = some o' ∧ SrcL (3000 + 12 * j + i) o') (fun i y => ∃ v v0, y = V.int v ∧ ks[i]? = some v0 ∧ tell fl v = tell fl v0)
          ⟨fun _ _ _ e => e, oj', hpj', hoj'⟩ ?_ (fun i G' h => SqL.of (h.1 _ _ rp hrG)) (by rw [List.length_map]; omega) (fun _ => rfl) ?_ ?_⟩
        · rintro i G' u ⟨b2, o', h3, s3⟩
          have n2p : D2 ≠ p := fun e => by
            rw [e, hpj'] at nD2
            cases nD2
          refine ⟨fun b x nb e => ?_, o', by rw [upd_ne (Ne.symm n2p)]; exact h3, s3⟩
          rw [upd_ne (ne_of_none e nD2)]
          exact b2 _ _ nb e
        · rintro i y G' cur hx2 ⟨b2, o', h3, s3⟩ hcur R2 hR2
          obtain ⟨v, rfl, hv⟩ := int_at hx2
          have hi : i < 12 := by
            have := (List.getElem?_eq_some_iff.mp hv).1
            omega
          have n2p : D2 ≠ p := fun e => by
            rw [e, hpj'] at nD2
            cases nD2
          refine ⟨_, rfl, _, rfl, _, rfl, p, o', _, 3, rfl, h3, s3, by omega, by decide, by decide, fun d o2 d0 d1 ho2 => ⟨_, _, rfl, rfl, fl, d - 1, rfl, rfl, wide_mul (a := 100) (b := 100) (by have := hg.2; have := hg.1; omega) (by omega) (by decide) (by decide) (by decide), _, _, rfl, rfl, hR2 _ _ ⟨_, v, rfl, hv, ?_⟩ ⟨b2.trans But.upd, o2, upd_same, ho2⟩ ?_⟩⟩
          · unfold tell
            by_cases z : fl = 0
            · rw [if_pos z, if_pos z, z, Int.zero_mul, Int.add_zero]
            · rw [if_neg z, if_neg z]
              exact Int.add_mul_emod_self_left _ _ _
          · rw [upd_ne n2p]
        · rintro G' ys2 ⟨b2, o', h3, s3⟩ hD2 gv
          obtain ⟨ms2, rfl, hml2, hmt⟩ := gives_tell (List.length_map ..) gv
          have n2D : D2 ≠ D15 := fun e => by
            rw [e, hGD] at nD2
            cases nD2
          have n2p : D2 ≠ p := fun e => by
            rw [e, hpj'] at nD2
            cases nD2
          refine hR _ _ (b2 _ _ n15 hGD) ⟨But.new (bG.trans b2) nD15, ⟨o', by rw [upd_ne (Ne.symm n15)]; exact h3, s3.mono (by rw [List.length_map]; omega)⟩, ms ++ [D2], mss' ++ [ms2], by rw [List.map_append]; rfl, ?_, ?_, ?_⟩
          · refine Paired.snoc (Paired.keepMem hms' fun t m ns h => ⟨?_, h.2⟩) ⟨by rw [upd_ne n2D]; exact hD2, by omega⟩
            rw [upd_ne (hmn t m).1]
            exact b2 _ _ (hmn t m).2 h.1
          · rw [List.take_succ, hks]
            unfold tellN at htl ⊢
            rw [List.map_append, List.map_append, htl, List.map_cons, hmt]
            rfl
          · intro t m
            rcases List.mem_append.mp m with m | m
            · exact hmn t m
            · rw [List.mem_singleton.mp m]
              exact ⟨n2D, n2p⟩
      rintro G15 ys ⟨b15, ⟨o15, hp15, ho15⟩, ms, mss', rfl, hms', htl, hmn⟩ hG15 _
      rw [List.length_map, tsl, List.take_length] at htl
      have st14 : Std G14 D q p ts rs mss nss wn := ⟨hD14, Paired.keepMem rows14 fun r m ns h => ⟨h.1, h.2.1⟩, hq14, qrows14, by omega, nDp0, nqp, fun t m => (hts t m).2, fun r m => (hfr r m).2.1, by omega, by omega⟩
      have st15 := st14.but b15
      refine ⟨p, D, q, ts, rs, mss, nss, wn, fl, ⟨rfl, rfl, rfl, rfl, rfl⟩, st15, hf, fun G16 o1 s16 d16 => ⟨Nat.le_of_ble_eq_true rfl, fun O nO => ?_⟩⟩
      have s17 := s16.trans (same_upd nO (o := .lst [.ref o1]))
      have hO17 : upd G16 O (.lst [.ref o1]) O = some (.lst ([o1].map V.ref)) := upd_same
      have d17 := d16.fix (S := []) (FixL.same (same_upd nO (o := .lst [.ref o1])))
      have fresh : ∀ b u, G15 b = some u → O ≠ b := fun b u e z => by
        rw [z, s16 _ _ e] at nO
        cases nO
      generalize upd G16 O (.lst [.ref o1]) = G17 at s17 hO17 d17
      have st17 := st15.same s17
      have ap : Apart O D q p ts rs := ⟨fresh _ _ hp15, fresh _ _ st15.lD, fresh _ _ st15.lq, fun t m z => by
        obtain ⟨ks, _, h, _⟩ := paired_mem st15.rows m
        exact fresh _ _ h z.symm, fun r m z => by
        obtain ⟨ks, _, h⟩ := paired_mem st15.qr m
        exact fresh _ _ h z.symm⟩
      refine ⟨p, D, q, O, [o1], ts, rs, mss, nss, wn, fl, o15, _, ⟨_, _, _, _, _, _, _, _, _, _, _, rfl⟩, st17, ap, hf, s17 _ _ hp15, ho15, by rw [List.length_map, tsl]; omega, hO17, Nat.le_of_ble_eq_true rfl, fun o m => by rw [List.mem_singleton.mp m]; exact d17, fun G18 o18 os18 f18 hp18 ho18 hO18 l18 d18 => ?_⟩
      refine ⟨p, D, q, O, os18, ts, rs, mss, nss, wn, fl, o18, _, ⟨_, _, _, _, _, _, _, _, _, _, _, rfl⟩, st17.fix ap f18, ap, hf, hp18, ho18, by rw [List.length_map, tsl]; omega, hO18, by simp at l18; omega, d18, fun G19 o19 os19 f19 hp19 ho19 hO19 l19 d19 => ?_⟩
      have f1719 := f18.trans f19
      have tab17 : TabAt C G17 x fl mss := by
        obtain ⟨g1, g2, g3, eo⟩ := srcLst ho13
        rw [eo] at hp14
        exact (tab5.fix (FixL.but (S := [p]) hp14 (.head _) b15)).keep s17
      have tab19 := tab17.fix f1719
      have st19 := st17.fix ap f1719
      obtain ⟨dx9, t9, ts9, w1, w2, w3⟩ := id tab19
      have notm : ∀ b, O ≠ b → b ≠ p → ∀ u, G17 b = some u → G19 b = some u := fun b n1 n2 u e => f1719 _ _ e (.inr (by simp [n2, Ne.symm n1]))
      have n15p : D15 ≠ p := fun e => by
        rw [e, hp14] at nD15
        cases nD15
      have hG19 := notm _ (fresh _ _ hG15) n15p _ (s17 _ _ hG15)
      have ms19 : RowsAt G19 wn ms mss' := Paired.keepMem hms' fun m mm ns e => ⟨.inl (notm _ (fresh _ _ e.1) (hmn m mm).2 _ (s17 _ _ e.1)), e.2⟩
      have msl : ms.length ≤ 60 := by
        have h1 := congrArg List.length htl
        unfold tellN at h1
        rw [List.length_map, List.length_map] at h1
        have h2 := Paired.length hms'
        omega
      have tsl60 : ts.length ≤ 60 := by omega
      refine ⟨_, rfl, O, rfl, ⟨_, SqL.of hO19⟩, fun D20 nD20 => comp_listD (fun _ G' => Same G19 G') (fun _ y => y = .bl false) same_refl (fun _ _ _ h => same_new nD20 h) (fun _ _ h => SqL.of (h _ _ hO19)) (by rw [List.length_map]; simp at l18; omega) (fun _ => rfl) ?_ ?_⟩
      · intro j y G' cur hy sG hcur R hR
        obtain ⟨ob, rfl, hob⟩ := ref_at hy
        have dif := (d19 ob (List.mem_of_getElem? hob)).fix (S := []) (FixL.same sG)
        obtain ⟨g, m', tabo, neq'⟩ := id dif
        obtain ⟨dxo, to, tso, q1, q2, q3⟩ := id tabo
        have tabG := tab19.keep sG
        refine ⟨_, rfl, _, rfl, x, ob, dx9, dxo, _, _, false, rfl, rfl, sG _ _ w1, q1, ⟨ob, fl, mss, rfl, tabG, .inl ⟨g, m', tabo, neq'.symm⟩⟩, fun G2 s2 => ⟨false, rfl, iteF ?_⟩⟩
        refine ⟨_, rfl, _, rfl, x, ob, dx9, dxo, _, _, false, rfl, rfl, s2 _ _ (sG _ _ w1), s2 _ _ q1, ⟨ob, fl, mss, rfl, tabG.keep s2, .inl ⟨g, m', tabo.keep s2, neq'.symm⟩⟩, fun G3 s3 => ⟨true, rfl, hR _ _ rfl ((sG.trans s2).trans s3) ((s2.trans s3 _ _ hcur).trans hcur.symm)⟩⟩
      intro G20 ys s20 e20 gv
      rw [gv.map (f := fun _ => .bl false) (fun _ _ _ h => h)] at e20
      have e20' : G20 D20 = some (.lst (((List.range (os19.map V.ref).length).map fun _ => false).map V.bl)) := by
        rw [e20, List.map_map]
        rfl
      refine ⟨D20, _, rfl, SqL.of e20', ?_⟩
      have none' : ((List.range (os19.map V.ref).length).map fun _ => false).any id = false := by
        rw [List.any_map]
        simp
      rw [none']
      refine ⟨false, rfl, iteF ?_⟩
      have st20 := st19.same s20
      have tab20 := tab19.keep s20
      refine ⟨_, rfl, _, rfl, x, dx9, _, false, D, _, rfl, rfl, s20 _ _ w1, st20.lD, ⟨D, fl, mss, rfl, tab20, .inr ⟨⟨_, st20.lD⟩, rfl⟩⟩, fun G21 s21 => ⟨_, rfl, iteF ?_⟩⟩
      have s1921 := s20.trans s21
      have tab21 := tab19.keep s1921
      have st21 := st19.same s1921
      refine ⟨_, rfl, _, rfl, _, rfl, fun y dy0 hy0 hdy0 ney => mk_tab2 hy0 hdy0 ney (.inl (s1921 _ _ hG19)) (ms19.same s1921) (by omega) msl hf fun G22 s22 taby => ?_⟩
      obtain ⟨dxy, ty, tsy, r1, r2, r3⟩ := id taby
      refine ⟨x, y, dx9, dxy, _, _, true, rfl, rfl, s22 _ _ (s1921 _ _ w1), r1, ⟨y, fl, mss, rfl, tab21.keep s22, .inl ⟨fl, mss', taby, by rw [htl]; simp⟩⟩, fun G23 s23 => ⟨true, rfl, iteT ?_⟩⟩
      have s2123 := s22.trans s23
      have st23 := st21.same s2123
      refine ⟨_, rfl, _, rfl, _, rfl, fun z dz0 hz0 hdz0 nez => mk_tab2 hz0 hdz0 nez (.inl st23.lD) (Paired.keepMem st23.rows fun r m ns e => ⟨.inl e.1, e.2⟩) (by omega) tsl60 hf fun G24 s24 tabz => ?_⟩
      obtain ⟨dxz, tz, tsz, q1, q2, q3⟩ := id tabz
      exact ⟨x, z, dx9, dxz, _, _, true, rfl, rfl, s24 _ _ (s2123 _ _ (s1921 _ _ w1)), q1, ⟨z, fl, mss, rfl, (tab21.keep s2123).keep s24, .inl ⟨fl, mss, tabz, by simp⟩⟩, fun G25 s25 => ⟨_, rfl, k _⟩⟩
end
theorem all_mk {P : Program} {w : World} {K : PySem.W.Frag} {h : Heap} {mg : Str → Option Value} {fa : Addr} {fS fD fP fLF fLR fLQ fLT fWH fLI fFD fRW fFA fIN fTO C fII fLE fEQ fRA fGF pGF fGW pGW fLA cda pt CN fN aF : Addr} (X : K.In h) (G : h.Ns mainGlobals mg) (hfa : mg "law" = some (.ref fa))
    {odS anS : Option Addr} {slS : Array (Option Value)} {ocS kVS dcS pmS cdS ctS : Value}
    (aS : PySem.W.nsIn K mainGlobals "_law_source" = some (some (.ref fS)))
    (lS : K.lookup fS = some ⟨ocS, odS, .func (PySem.W.fnOf "_law_source" "_law_source" (defArgs sSource) (defBody sSource) (defScope sSource) .none kVS dcS pmS anS cdS ctS), slS⟩)
    (cS : PySem.W.codeIn K cdS "_law_source" = true)
    (kS : PySem.W.keepIn K (.ref fS) = true)
    {odD anD : Option Addr} {slD : Array (Option Value)} {ocD kVD dcD pmD cdD ctD : Value}
    (aD : PySem.W.nsIn K mainGlobals "_law_draw" = some (some (.ref fD)))
    (lD : K.lookup fD = some ⟨ocD, odD, .func (PySem.W.fnOf "_law_draw" "_law_draw" (defArgs sDraw) (defBody sDraw) (defScope sDraw) .none kVD dcD pmD anD cdD ctD), slD⟩)
    (cD : PySem.W.codeIn K cdD "_law_draw" = true)
    (kD : PySem.W.keepIn K (.ref fD) = true)
    {odP anP : Option Addr} {slP : Array (Option Value)} {ocP kVP dcP pmP cdP ctP : Value}
    (aP : PySem.W.nsIn K mainGlobals "_law_pick" = some (some (.ref fP)))
    (lP : K.lookup fP = some ⟨ocP, odP, .func (PySem.W.fnOf "_law_pick" "_law_pick" (defArgs sPick) (defBody sPick) (defScope sPick) .none kVP dcP pmP anP cdP ctP), slP⟩)
    (cP : PySem.W.codeIn K cdP "_law_pick" = true)
    (kP : PySem.W.keepIn K (.ref fP) = true)
    {odLF anLF : Option Addr} {slLF : Array (Option Value)} {ocLF kVLF dcLF pmLF cdLF ctLF : Value}
    (aLF : PySem.W.nsIn K mainGlobals "_law_field" = some (some (.ref fLF)))
    (lLF : K.lookup fLF = some ⟨ocLF, odLF, .func (PySem.W.fnOf "_law_field" "_law_field" (defArgs sLField) (defBody sLField) (defScope sLField) .none kVLF dcLF pmLF anLF cdLF ctLF), slLF⟩)
    (cLF : PySem.W.codeIn K cdLF "_law_field" = true)
    (kLF : PySem.W.keepIn K (.ref fLF) = true)
    {odLR anLR : Option Addr} {slLR : Array (Option Value)} {ocLR kVLR dcLR pmLR cdLR ctLR : Value}
    (aLR : PySem.W.nsIn K mainGlobals "_law_rows" = some (some (.ref fLR)))
    (lLR : K.lookup fLR = some ⟨ocLR, odLR, .func (PySem.W.fnOf "_law_rows" "_law_rows" (defArgs sLRows) (defBody sLRows) (defScope sLRows) .none kVLR dcLR pmLR anLR cdLR ctLR), slLR⟩)
    (cLR : PySem.W.codeIn K cdLR "_law_rows" = true)
    (kLR : PySem.W.keepIn K (.ref fLR) = true)
    {odLQ anLQ : Option Addr} {slLQ : Array (Option Value)} {ocLQ kVLQ dcLQ pmLQ cdLQ ctLQ : Value}
    (aLQ : PySem.W.nsIn K mainGlobals "_law_told_row" = some (some (.ref fLQ)))
    (lLQ : K.lookup fLQ = some ⟨ocLQ, odLQ, .func (PySem.W.fnOf "_law_told_row" "_law_told_row" (defArgs sLTR) (defBody sLTR) (defScope sLTR) .none kVLQ dcLQ pmLQ anLQ cdLQ ctLQ), slLQ⟩)
    (cLQ : PySem.W.codeIn K cdLQ "_law_told_row" = true)
    (kLQ : PySem.W.keepIn K (.ref fLQ) = true)
    {odLT anLT : Option Addr} {slLT : Array (Option Value)} {ocLT kVLT dcLT pmLT cdLT ctLT : Value}
    (aLT : PySem.W.nsIn K mainGlobals "_law_tried" = some (some (.ref fLT)))
    (lLT : K.lookup fLT = some ⟨ocLT, odLT, .func (PySem.W.fnOf "_law_tried" "_law_tried" (defArgs sTried) (defBody sTried) (defScope sTried) .none kVLT dcLT pmLT anLT cdLT ctLT), slLT⟩)
    (cLT : PySem.W.codeIn K cdLT "_law_tried" = true)
    (kLT : PySem.W.keepIn K (.ref fLT) = true)
    {odWH anWH : Option Addr} {slWH : Array (Option Value)} {ocWH kVWH dcWH pmWH cdWH ctWH : Value}
    (aWH : PySem.W.nsIn K mainGlobals "is_whole" = some (some (.ref fWH)))
    (lWH : K.lookup fWH = some ⟨ocWH, odWH, .func (PySem.W.fnOf "is_whole" "is_whole" (defArgs sWhole) (defBody sWhole) (defScope sWhole) .none kVWH dcWH pmWH anWH cdWH ctWH), slWH⟩)
    (cWH : PySem.W.codeIn K cdWH "is_whole" = true)
    (kWH : PySem.W.keepIn K (.ref fWH) = true)
    {odLI anLI : Option Addr} {slLI : Array (Option Value)} {ocLI kVLI dcLI pmLI cdLI ctLI : Value}
    (aLI : PySem.W.nsIn K mainGlobals "is_list" = some (some (.ref fLI)))
    (lLI : K.lookup fLI = some ⟨ocLI, odLI, .func (PySem.W.fnOf "is_list" "is_list" (defArgs sList) (defBody sList) (defScope sList) .none kVLI dcLI pmLI anLI cdLI ctLI), slLI⟩)
    (cLI : PySem.W.codeIn K cdLI "is_list" = true)
    (kLI : PySem.W.keepIn K (.ref fLI) = true)
    {odFD anFD : Option Addr} {slFD : Array (Option Value)} {ocFD kVFD dcFD pmFD cdFD ctFD : Value}
    (aFD : PySem.W.nsIn K mainGlobals "is_field" = some (some (.ref fFD)))
    (lFD : K.lookup fFD = some ⟨ocFD, odFD, .func (PySem.W.fnOf "is_field" "is_field" (defArgs sField) (defBody sField) (defScope sField) .none kVFD dcFD pmFD anFD cdFD ctFD), slFD⟩)
    (cFD : PySem.W.codeIn K cdFD "is_field" = true)
    (kFD : PySem.W.keepIn K (.ref fFD) = true)
    {odRW anRW : Option Addr} {slRW : Array (Option Value)} {ocRW kVRW dcRW pmRW cdRW ctRW : Value}
    (aRW : PySem.W.nsIn K mainGlobals "is_row" = some (some (.ref fRW)))
    (lRW : K.lookup fRW = some ⟨ocRW, odRW, .func (PySem.W.fnOf "is_row" "is_row" (defArgs sRow) (defBody sRow) (defScope sRow) .none kVRW dcRW pmRW anRW cdRW ctRW), slRW⟩)
    (cRW : PySem.W.codeIn K cdRW "is_row" = true)
    (kRW : PySem.W.keepIn K (.ref fRW) = true)
    {odFA anFA : Option Addr} {slFA : Array (Option Value)} {ocFA kVFA dcFA pmFA cdFA ctFA : Value}
    (aFA : PySem.W.nsIn K mainGlobals "rows_fault" = some (some (.ref fFA)))
    (lFA : K.lookup fFA = some ⟨ocFA, odFA, .func (PySem.W.fnOf "rows_fault" "rows_fault" (defArgs sFault) (defBody sFault) (defScope sFault) .none kVFA dcFA pmFA anFA cdFA ctFA), slFA⟩)
    (cFA : PySem.W.codeIn K cdFA "rows_fault" = true)
    (kFA : PySem.W.keepIn K (.ref fFA) = true)
    {odIN anIN : Option Addr} {slIN : Array (Option Value)} {ocIN kVIN dcIN pmIN cdIN ctIN : Value}
    (aIN : PySem.W.nsIn K mainGlobals "is_integer" = some (some (.ref fIN)))
    (lIN : K.lookup fIN = some ⟨ocIN, odIN, .func (PySem.W.fnOf "is_integer" "is_integer" (defArgs sIsInt) (defBody sIsInt) (defScope sIsInt) .none kVIN dcIN pmIN anIN cdIN ctIN), slIN⟩)
    (cIN : PySem.W.codeIn K cdIN "is_integer" = true)
    (kIN : PySem.W.keepIn K (.ref fIN) = true)
    {odTO anTO : Option Addr} {slTO : Array (Option Value)} {ocTO kVTO dcTO pmTO cdTO ctTO : Value}
    (aTO : PySem.W.nsIn K mainGlobals "told" = some (some (.ref fTO)))
    (lTO : K.lookup fTO = some ⟨ocTO, odTO, .func (PySem.W.fnOf "told" "told" (defArgs sTold) (defBody sTold) (defScope sTold) .none kVTO dcTO pmTO anTO cdTO ctTO), slTO⟩)
    (cTO : PySem.W.codeIn K cdTO "told" = true)
    (kTO : PySem.W.keepIn K (.ref fTO) = true)
    {tkMR : Tok}
    (aMR : PySem.W.nsIn K mainGlobals "MOST_ROWS" = some (some (.int 60 tkMR)))
    {tkMW : Tok}
    (aMW : PySem.W.nsIn K mainGlobals "MOST_WIDTH" = some (some (.int 12 tkMW)))
    (aC : PySem.W.nsIn K mainGlobals "Rows" = some (some (.ref C)))
    (pgC : PySem.W.plainGet K C Str.empty = true)
    (hdC : PySem.W.hasDictIn K C = true)
    (poC : PySem.W.plainOver K C = true)
    (saC : PySem.W.findIn K (.ref C) "__setattr__" = some (some (.builtin "object.__setattr__")))
    (mkC : PySem.W.makesIn K C = true)
    (kcC : PySem.W.keepIn K (.ref C) = true)
    (nC_field : PySem.W.findIn K (.ref C) "_field" = some none)
    (nC_rows : PySem.W.findIn K (.ref C) "_rows" = some none)
    (nC_width : PySem.W.findIn K (.ref C) "_width" = some none)
    {odII anII : Option Addr} {slII : Array (Option Value)} {ocII kVII dcII pmII cdII ctII  : Value}
    {TII : Addr} {oTII : Value} {dTII : Option Addr} {uTII : Value} {nTII : Nat} {sTII : Array (Option Value)}
    (aII : PySem.W.findIn K (.ref C) "__init__" = some (some (.ref fII)))
    (iII : PySem.W.isFn K (.ref fII) = true)
    (lII : K.lookup fII = some ⟨ocII, odII, .func (PySem.W.fnOf "__init__" "Rows.__init__" (defArgs sInit) (defBody sInit) (defScope sInit) (.ref TII) kVII dcII pmII anII cdII ctII), slII⟩)
    (cII : PySem.W.codeIn K cdII "Rows.__init__" = true)
    (lTII : K.lookup TII = some ⟨oTII, dTII, .seq #[uTII] nTII, sTII⟩)
    (kII : PySem.W.keepIn K (.ref fII) = true)
    {odLE anLE : Option Addr} {slLE : Array (Option Value)} {ocLE kVLE dcLE pmLE cdLE ctLE : Value}
    (aLE : PySem.W.findIn K (.ref C) "__len__" = some (some (.ref fLE)))
    (iLE : PySem.W.isFn K (.ref fLE) = true)
    (lLE : K.lookup fLE = some ⟨ocLE, odLE, .func (PySem.W.fnOf "__len__" "Rows.__len__" (defArgs sLen) (defBody sLen) (defScope sLen) .none kVLE dcLE pmLE anLE cdLE ctLE), slLE⟩)
    (cLE : PySem.W.codeIn K cdLE "Rows.__len__" = true)
    (kLE : PySem.W.keepIn K (.ref fLE) = true)
    {odEQ anEQ : Option Addr} {slEQ : Array (Option Value)} {ocEQ kVEQ dcEQ pmEQ cdEQ ctEQ : Value}
    (aEQ : PySem.W.findIn K (.ref C) "__eq__" = some (some (.ref fEQ)))
    (iEQ : PySem.W.isFn K (.ref fEQ) = true)
    (lEQ : K.lookup fEQ = some ⟨ocEQ, odEQ, .func (PySem.W.fnOf "__eq__" "Rows.__eq__" (defArgs sEq) (defBody sEq) (defScope sEq) .none kVEQ dcEQ pmEQ anEQ cdEQ ctEQ), slEQ⟩)
    (cEQ : PySem.W.codeIn K cdEQ "Rows.__eq__" = true)
    (kEQ : PySem.W.keepIn K (.ref fEQ) = true)
    {odRA anRA : Option Addr} {slRA : Array (Option Value)} {ocRA kVRA dcRA pmRA cdRA ctRA : Value}
    (aRA : PySem.W.findIn K (.ref C) "row_at" = some (some (.ref fRA)))
    (iRA : PySem.W.isFn K (.ref fRA) = true)
    (lRA : K.lookup fRA = some ⟨ocRA, odRA, .func (PySem.W.fnOf "row_at" "Rows.row_at" (defArgs sRowAt) (defBody sRowAt) (defScope sRowAt) .none kVRA dcRA pmRA anRA cdRA ctRA), slRA⟩)
    (cRA : PySem.W.codeIn K cdRA "Rows.row_at" = true)
    (kRA : PySem.W.keepIn K (.ref fRA) = true)
    {odGF anGF : Option Addr} {slGF : Array (Option Value)} {ocGF kVGF dcGF pmGF cdGF ctGF : Value} {restGF : List Value}
    (atGF : PySem.W.findIn K (.ref C) "field" = some (some (.ref pGF)))
    (gtGF : PySem.W.specialIn K (.ref pGF) "__get__" = some (some (.builtin "property.__get__")))
    (tkGF : PySem.W.takesIn K (.ref pGF) = some true)
    (rcGF : PySem.W.recIn K pGF "property" = some (.ref fGF :: restGF))
    (lGF : K.lookup fGF = some ⟨ocGF, odGF, .func (PySem.W.fnOf "field" "Rows.field" (defArgs sGetF) (defBody sGetF) (defScope sGetF) .none kVGF dcGF pmGF anGF cdGF ctGF), slGF⟩)
    (cGF : PySem.W.codeIn K cdGF "Rows.field" = true)
    (kGF : PySem.W.keepIn K (.ref fGF) = true)
    {odGW anGW : Option Addr} {slGW : Array (Option Value)} {ocGW kVGW dcGW pmGW cdGW ctGW : Value} {restGW : List Value}
    (atGW : PySem.W.findIn K (.ref C) "width" = some (some (.ref pGW)))
    (gtGW : PySem.W.specialIn K (.ref pGW) "__get__" = some (some (.builtin "property.__get__")))
    (tkGW : PySem.W.takesIn K (.ref pGW) = some true)
    (rcGW : PySem.W.recIn K pGW "property" = some (.ref fGW :: restGW))
    (lGW : K.lookup fGW = some ⟨ocGW, odGW, .func (PySem.W.fnOf "width" "Rows.width" (defArgs sGetW) (defBody sGetW) (defScope sGetW) .none kVGW dcGW pmGW anGW cdGW ctGW), slGW⟩)
    (cGW : PySem.W.codeIn K cdGW "Rows.width" = true)
    (kGW : PySem.W.keepIn K (.ref fGW) = true)
    {odLA anLA : Option Addr} {slLA : Array (Option Value)} {ocLA kVLA dcLA pmLA ctLA : Value}
    (aLA : PySem.W.nsIn K mainGlobals "law" = some (some (.ref fLA)))
    (lLA : K.lookup fLA = some ⟨ocLA, odLA, .func (PySem.W.fnOf "law" "law" (defArgs sLaw) (defBody sLaw) (defScope sLaw) .none kVLA dcLA pmLA anLA (.ref cda) ctLA), slLA⟩)
    (cLA : PySem.W.codeIn K (.ref cda) "law" = true)
    {cdd : Option Addr} {vs : Array Value} {ccs : Array (Option Value)} {file : Str} {tf tg tt : Tok} {flags text : Int} {inF : Bool}
    (lc : K.lookup cda = some ⟨.type "code", cdd, .fields vs, ccs⟩)
    (v11 : vs[11]? = some (.ref pt))
    (w11 : vs.getD 11 .none = .ref pt)
    (w18 : vs.getD 18 .none = .str file tf)
    (w7 : vs.getD 7 .none = .int flags tg)
    (w9 : vs.getD 9 .none = .bool inF)
    (w10 : vs.getD 10 .none = .int text tt)
    (ne : cda ≠ pt)
    (nK : K.lookup pt = none)
    (tab : h.get? pt = some { cls := .none, data := .fields #[] })
    {dN : FuncData}
    (MN : Made K P mg "NoRow" "row" CN fN dN)
    (sN : PySem.W.subIn K (.ref CN) (.ref CN) = some true)
    (haC : PySem.W.findIn K (.ref C) "__class__" = some (some (.builtin "object.__class__")))
    (hnC : PySem.W.specialIn K (.builtin "object.__class__") "__get__" = some (some (.builtin "getset_descriptor.__get__")))
    (tkC : PySem.W.takesIn K (.builtin "object.__class__") = some true)
    (hmC : PySem.W.mroIn K C (.type "object") = some true)
    (neC : PySem.W.findIn K (.ref C) "__ne__" = some (some (.builtin "object.__ne__")))
    (nlC : PySem.W.kitOne K (.type "list") (.ref C) = some false)
    {odF : Option Addr} {itF : Array Value} {nF : Nat} {slF : Array (Option Value)}
    (aFI : PySem.W.nsIn K mainGlobals "FIELDS" = some (some (.ref aF)))
    (lFI : K.lookup aF = some ⟨.type "tuple", odF, .seq itF nF, slF⟩)
    (vFI : Vals (fields.map V.int) itF.toList)
    (zisinstance : PySem.W.nsIn K mainGlobals "isinstance" = some none)
    (zint : PySem.W.nsIn K mainGlobals "int" = some none)
    (zbool : PySem.W.nsIn K mainGlobals "bool" = some none)
    (zlist : PySem.W.nsIn K mainGlobals "list" = some none)
    (ztuple : PySem.W.nsIn K mainGlobals "tuple" = some none)
    (zlen : PySem.W.nsIn K mainGlobals "len" = some none)
    (zall : PySem.W.nsIn K mainGlobals "all" = some none)
    (zany : PySem.W.nsIn K mainGlobals "any" = some none)
    (zenumerate : PySem.W.nsIn K mainGlobals "enumerate" = some none)
    (zstr : PySem.W.nsIn K mainGlobals "str" = some none)
    (zrange : PySem.W.nsIn K mainGlobals "range" = some none)
    (zrepr : PySem.W.nsIn K mainGlobals "repr" = some none) :
    ∃ (fd : FuncData) (cs : List (Addr × Addr)) (sp : Sp), ((∀ p ∈ cs, h.get? p.2 = some { cls := .none, data := .fields #[] }) ∧ (∀ p ∈ cs, K.lookup p.2 = none) ∧ ∀ p ∈ cs, PySem.W.CodeHd h p.1 p.2) ∧ (∀ (s : Shared) (u : Value), BindsTo s fd ⟨[u], []⟩ [("_law_script", u)]) ∧
      (∀ (H : Hp) (a : Addr) (ns : List Int), ns.length ≤ 63 → (∀ p ∈ cs, H p.2 = some (.tbl #[])) → SqL K H a (ns.map V.int) → sp [.ref a] H (fun v _ => v = .bl true) fun _ _ _ => False) ∧
      ∀ base : Heap, K.In base → base.Ns mainGlobals mg → (∀ p ∈ cs, LamX.TabB base mg p.1 p.2) → FnOkG P w K mg base CX0 7 fa fd ["_law_script"] sp := by
  have FS := fun_mk (st := sSource) lS cS kS
  have bS := FS.binds (ps := ["_law_script"]) fun _ _ _ _ _ _ us hl => match us, hl with | [_], _ => rfl
  have gS := PySem.W.mg_of X G aS
  have FD := fun_mk (st := sDraw) lD cD kD
  have bD := FD.binds (ps := ["_law_source_here", "_law_many"]) fun _ _ _ _ _ _ us hl => match us, hl with | [_, _], _ => rfl
  have gD := PySem.W.mg_of X G aD
  have FP := fun_mk (st := sPick) lP cP kP
  have bP := FP.binds (ps := ["_law_source_here", "_law_things"]) fun _ _ _ _ _ _ us hl => match us, hl with | [_, _], _ => rfl
  have gP := PySem.W.mg_of X G aP
  have FLF := fun_mk (st := sLField) lLF cLF kLF
  have bLF := FLF.binds (ps := ["_law_source_here"]) fun _ _ _ _ _ _ us hl => match us, hl with | [_], _ => rfl
  have gLF := PySem.W.mg_of X G aLF
  have FLR := fun_mk (st := sLRows) lLR cLR kLR
  have bLR := FLR.binds (ps := ["_law_source_here", "_law_width", "_law_many"]) fun _ _ _ _ _ _ us hl => match us, hl with | [_, _, _], _ => rfl
  have gLR := PySem.W.mg_of X G aLR
  have FLQ := fun_mk (st := sLTR) lLQ cLQ kLQ
  have bLQ := FLQ.binds (ps := ["_law_row", "_law_field_here"]) fun _ _ _ _ _ _ us hl => match us, hl with | [_, _], _ => rfl
  have gLQ := PySem.W.mg_of X G aLQ
  have FLT := fun_mk (st := sTried) lLT cLT kLT
  have bLT := FLT.binds (ps := ["_law_job"]) fun _ _ _ _ _ _ us hl => match us, hl with | [_], _ => rfl
  have gLT := PySem.W.mg_of X G aLT
  have FWH := fun_mk (st := sWhole) lWH cWH kWH
  have bWH := FWH.binds (ps := ["value"]) fun _ _ _ _ _ _ us hl => match us, hl with | [_], _ => rfl
  have gWH := PySem.W.mg_of X G aWH
  have FLI := fun_mk (st := sList) lLI cLI kLI
  have bLI := FLI.binds (ps := ["value"]) fun _ _ _ _ _ _ us hl => match us, hl with | [_], _ => rfl
  have gLI := PySem.W.mg_of X G aLI
  have FFD := fun_mk (st := sField) lFD cFD kFD
  have bFD := FFD.binds (ps := ["value"]) fun _ _ _ _ _ _ us hl => match us, hl with | [_], _ => rfl
  have gFD := PySem.W.mg_of X G aFD
  have FRW := fun_mk (st := sRow) lRW cRW kRW
  have bRW := FRW.binds (ps := ["value"]) fun _ _ _ _ _ _ us hl => match us, hl with | [_], _ => rfl
  have gRW := PySem.W.mg_of X G aRW
  have FFA := fun_mk (st := sFault) lFA cFA kFA
  have bFA := FFA.binds (ps := ["rows"]) fun _ _ _ _ _ _ us hl => match us, hl with | [_], _ => rfl
  have gFA := PySem.W.mg_of X G aFA
  have FIN := fun_mk (st := sIsInt) lIN cIN kIN
  have bIN := FIN.binds (ps := ["value", "low", "high"]) fun _ _ _ _ _ _ us hl => match us, hl with | [_, _, _], _ => rfl
  have gIN := PySem.W.mg_of X G aIN
  have FTO := fun_mk (st := sTold) lTO cTO kTO
  have bTO := FTO.binds (ps := ["row", "field"]) fun _ _ _ _ _ _ us hl => match us, hl with | [_, _], _ => rfl
  have gTO := PySem.W.mg_of X G aTO
  have gMR := PySem.W.mg_of X G aMR
  have gMW := PySem.W.mg_of X G aMW
  have gC := PySem.W.mg_of X G aC
  have clC : Cls K C := ⟨pgC, hdC, poC, saC⟩
  have FII : FunD K "__init__" "Rows.__init__" sInit fII (PySem.W.fnOf "__init__" "Rows.__init__" (defArgs sInit) (defBody sInit) (defScope sInit) (.ref TII) kVII dcII pmII anII cdII ctII) := ⟨⟨ocII, odII, .ref TII, kVII, dcII, pmII, anII, cdII, ctII, slII, rfl, lII, cII⟩⟩
  have bII : Binds K (PySem.W.fnOf "__init__" "Rows.__init__" (defArgs sInit) (defBody sInit) (defScope sInit) (.ref TII) kVII dcII pmII anII cdII ctII) ["self", "rows", "field"] [] := bind_dflt lTII rfl fun us hl => match us, hl with | [_, _, _], _ => ⟨_, rfl, rfl⟩
  have mII : Meth K C "__init__" fII := ⟨aII, iII, kII⟩
  have FLE := fun_mk (st := sLen) lLE cLE kLE
  have bLE := FLE.binds (ps := ["self"]) fun _ _ _ _ _ _ us hl => match us, hl with | [_], _ => rfl
  have mLE : Meth K C "__len__" fLE := ⟨aLE, iLE, kLE⟩
  have FEQ := fun_mk (st := sEq) lEQ cEQ kEQ
  have bEQ := FEQ.binds (ps := ["self", "other"]) fun _ _ _ _ _ _ us hl => match us, hl with | [_, _], _ => rfl
  have mEQ : Meth K C "__eq__" fEQ := ⟨aEQ, iEQ, kEQ⟩
  have FRA := fun_mk (st := sRowAt) lRA cRA kRA
  have bRA := FRA.binds (ps := ["self", "row"]) fun _ _ _ _ _ _ us hl => match us, hl with | [_, _], _ => rfl
  have mRA : Meth K C "row_at" fRA := ⟨aRA, iRA, kRA⟩
  have FGF := fun_mk (st := sGetF) lGF cGF kGF
  have bGF := FGF.binds (ps := ["self"]) fun _ _ _ _ _ _ us hl => match us, hl with | [_], _ => rfl
  have qGF : PropOf K C "field" pGF fGF := ⟨atGF, gtGF, tkGF, ⟨_, rcGF⟩⟩
  have FGW := fun_mk (st := sGetW) lGW cGW kGW
  have bGW := FGW.binds (ps := ["self"]) fun _ _ _ _ _ _ us hl => match us, hl with | [_], _ => rfl
  have qGW : PropOf K C "width" pGW fGW := ⟨atGW, gtGW, tkGW, ⟨_, rcGW⟩⟩
  have gLA := PySem.W.mg_of X G aLA
  have gFI := PySem.W.mg_of X G aFI
  have tFI : ∀ H, SqT K H aF (fields.map V.int) := fun H => .inr ⟨_, itF, nF, lFI, rfl, rfl, by show itF.toList.length ≤ sizeLine; rw [← vFI.length]; decide, vFI⟩
  have yisinstance := PySem.W.mg_none_of X G zisinstance
  have yint := PySem.W.mg_none_of X G zint
  have ybool := PySem.W.mg_none_of X G zbool
  have ylist := PySem.W.mg_none_of X G zlist
  have ytuple := PySem.W.mg_none_of X G ztuple
  have ylen := PySem.W.mg_none_of X G zlen
  have yall := PySem.W.mg_none_of X G zall
  have yany := PySem.W.mg_none_of X G zany
  have yenumerate := PySem.W.mg_none_of X G zenumerate
  have ystr := PySem.W.mg_none_of X G zstr
  have yrange := PySem.W.mg_none_of X G zrange
  have yrepr := PySem.W.mg_none_of X G zrepr
  have e := hfa.symm.trans gLA; cases e
  have N : Nm mg := ⟨yisinstance, yint, ybool, ylist, ytuple, ylen, yall, yenumerate, ystr, yrange⟩
  have T : RTxt K mg C := ⟨clC, nC_field, nC_rows, nC_width, gC⟩
  have M : Mk K C fII := ⟨mkC, aII, iII, kcC⟩
  have R : RIs K C := ⟨clC, haC, hnC, tkC, hmC⟩
  have hd : PySem.W.CodeHd h cda pt := ⟨_, vs, file, tf, flags, tg, inF, text, tt, X _ _ lc, rfl, rfl, v11, w11, w18, w7, w9, w10, ne⟩
  refine ⟨PySem.W.fnOf "law" "law" (defArgs sLaw) (defBody sLaw) (defScope sLaw) .none kVLA dcLA pmLA anLA (.ref cda) ctLA, [(cda, pt)], spLaw K pt, ⟨fun p m => by rw [List.mem_singleton.mp m]; exact tab, fun p m => by rw [List.mem_singleton.mp m]; exact nK, fun p m => by rw [List.mem_singleton.mp m]; exact hd⟩, fun s v => .of_eq rfl, fun H a ns _ hT hS => ⟨a, ns, rfl, hS, hT (cda, pt) (.head _), fun _ => rfl⟩, fun base _ _ hTB => ?_⟩
  have TB := hTB (cda, pt) (.head _)
  have GS := ok_source (P := P) (w := w) (base := base) FS yint
  have GD := ok_draw (P := P) (w := w) (base := base) FD yint
  have GP := ok_pick (P := P) (w := w) (base := base) FP GD gD kD bD ylen
  have GLF := ok_lfield (P := P) (w := w) (base := base) FLF GD kD bD gD
  have GLR := ok_lrows (P := P) (w := w) (base := base) FLR N GD kD bD gD GP kP bP gP
  have GLQ := ok_ltr (P := P) (w := w) (base := base) FLQ N
  have GWH := ok_wholeA (P := P) (w := w) (base := base) FWH N
  have GIN := ok_intA (P := P) (w := w) (base := base) FIN GWH kWH bWH gWH
  have GFD := ok_field (P := P) (w := w) (base := base) FFD FWH bWH gWH N gFI tFI
  have GRW := ok_row (P := P) (w := w) (base := base) FRW FWH bWH gWH FLI bLI gLI N gMW
  have GFA := ok_fault1 (P := P) (w := w) (base := base) FFA GRW kRW bRW gRW FLI bLI gLI N gMR
  have GTO := ok_told (P := P) (w := w) (base := base) FTO N
  have GII := ok_init1 (P := P) (w := w) (base := base) FII T N GFD kFD bFD gFD GFA kFA bFA gFA GTO kTO bTO gTO
  have GLE := ok_len (P := P) (w := w) (base := base) FLE N T
  have GEQ := ok_eqA (P := P) (w := w) (base := base) FEQ N T R nlC
  have GRA := ok_rowat (P := P) (w := w) (base := base) FRA N T MN GIN kIN bIN gIN
  have GGF := ok_getF (P := P) (w := w) (base := base) FGF T
  have GGW := ok_getW (P := P) (w := w) (base := base) FGW T
  exact ok_law lLA cLA TB lLT cLT kLT gLT bLT MN (MN.exm sN) yrepr yany N T R M GS kS bS gS GD kD bD gD GP kP bP gP GLF kLF bLF gLF GLR kLR bLR gLR GII bII GEQ bEQ aEQ iEQ neC GRA bRA mRA GLE bLE aLE iLE GLQ kLQ bLQ gLQ GGF bGF qGF GGW bGW qGW
end My
open PySem PySem.W PyProof.Rows in
set_option maxRecDepth 100000 in
set_option maxHeartbeats 0 in
theorem PySem.Challenge.cw_freelots_k01_rows_made_holds : PySem.Challenge.rw_freelots_k01_rows_made.Holds := by
  w_on; o_law; k_head; (case hw => w_witness2)
  k_fill
  refine My.walkG (l := PySem.Challenge.rw_freelots_k01_rows_made) (n := 63) (k := 7) (x := "_law_script") (CX := fun _ => L2.CX0) rfl (by decide) rfl ⟨rfl, by decide, by decide⟩ (fun w h Y => PySem.W.km_in_of Y) ?F (fun _ _ _ _ _ h => h)
  case F =>
    intro w mg fa h Y KX G hmg
    refine' My.all_mk KX G hmg ?aS ?lS ?cS ?kS ?aD ?lD ?cD ?kD ?aP ?lP ?cP ?kP ?aLF ?lLF ?cLF ?kLF ?aLR ?lLR ?cLR ?kLR ?aLQ ?lLQ ?cLQ ?kLQ ?aLT ?lLT ?cLT ?kLT ?aWH ?lWH ?cWH ?kWH ?aLI ?lLI ?cLI ?kLI ?aFD ?lFD ?cFD ?kFD ?aRW ?lRW ?cRW ?kRW ?aFA ?lFA ?cFA ?kFA ?aIN ?lIN ?cIN ?kIN ?aTO ?lTO ?cTO ?kTO ?aMR ?aMW ?aC ?pgC ?hdC ?poC ?saC ?mkC ?kcC ?nC_field ?nC_rows ?nC_width ?aII ?iII ?lII ?cII ?lTII ?kII ?aLE ?iLE ?lLE ?cLE ?kLE ?aEQ ?iEQ ?lEQ ?cEQ ?kEQ ?aRA ?iRA ?lRA ?cRA ?kRA ?atGF ?gtGF ?tkGF ?rcGF ?lGF ?cGF ?kGF ?atGW ?gtGW ?tkGW ?rcGW ?lGW ?cGW ?kGW ?aLA ?lLA ?cLA ?lc ?v11 ?w11 ?w18 ?w7 ?w9 ?w10 ?ne ?nK ?tab ?MN ?sN ?haC ?hnC ?tkC ?hmC ?neC ?nlC ?aFI ?lFI ?vFI ?zisinstance ?zint ?zbool ?zlist ?ztuple ?zlen ?zall ?zany ?zenumerate ?zstr ?zrange ?zrepr
    (case aS => k_is)
    (case lS => k_is)
    (case cS => k_is)
    (case kS => k_is)
    (case aD => k_is)
    (case lD => k_is)
    (case cD => k_is)
    (case kD => k_is)
    (case aP => k_is)
    (case lP => k_is)
    (case cP => k_is)
    (case kP => k_is)
    (case aLF => k_is)
    (case lLF => k_is)
    (case cLF => k_is)
    (case kLF => k_is)
    (case aLR => k_is)
    (case lLR => k_is)
    (case cLR => k_is)
    (case kLR => k_is)
    (case aLQ => k_is)
    (case lLQ => k_is)
    (case cLQ => k_is)
    (case kLQ => k_is)
    (case aLT => k_is)
    (case lLT => k_is)
    (case cLT => k_is)
    (case kLT => k_is)
    (case aWH => k_is)
    (case lWH => k_is)
    (case cWH => k_is)
    (case kWH => k_is)
    (case aLI => k_is)
    (case lLI => k_is)
    (case cLI => k_is)
    (case kLI => k_is)
    (case aFD => k_is)
    (case lFD => k_is)
    (case cFD => k_is)
    (case kFD => k_is)
    (case aRW => k_is)
    (case lRW => k_is)
    (case cRW => k_is)
    (case kRW => k_is)
    (case aFA => k_is)
    (case lFA => k_is)
    (case cFA => k_is)
    (case kFA => k_is)
    (case aIN => k_is)
    (case lIN => k_is)
    (case cIN => k_is)
    (case kIN => k_is)
    (case aTO => k_is)
    (case lTO => k_is)
    (case cTO => k_is)
    (case kTO => k_is)
    (case aMR => k_is)
    (case aMW => k_is)
    (case aC => k_is)
    (case pgC => k_is)
    (case hdC => k_is)
    (case poC => k_is)
    (case saC => k_is)
    (case mkC => k_is)
    (case kcC => k_is)
    (case nC_field => k_is)
    (case nC_rows => k_is)
    (case nC_width => k_is)
    (case aII => k_is)
    (case iII => k_is)
    (case lII => k_is)
    (case cII => k_is)
    (case lTII => k_is)
    (case kII => k_is)
    (case aLE => k_is)
    (case iLE => k_is)
    (case lLE => k_is)
    (case cLE => k_is)
    (case kLE => k_is)
    (case aEQ => k_is)
    (case iEQ => k_is)
    (case lEQ => k_is)
    (case cEQ => k_is)
    (case kEQ => k_is)
    (case aRA => k_is)
    (case iRA => k_is)
    (case lRA => k_is)
    (case cRA => k_is)
    (case kRA => k_is)
    (case atGF => k_is)
    (case gtGF => k_is)
    (case tkGF => k_is)
    (case rcGF => k_is)
    (case lGF => k_is)
    (case cGF => k_is)
    (case kGF => k_is)
    (case atGW => k_is)
    (case gtGW => k_is)
    (case tkGW => k_is)
    (case rcGW => k_is)
    (case lGW => k_is)
    (case cGW => k_is)
    (case kGW => k_is)
    (case aLA => k_is)
    (case lLA => k_is)
    (case cLA => k_is)
    (case lc => k_is)
    (case v11 => rfl)
    (case w11 => rfl)
    (case w18 => rfl)
    (case w7 => rfl)
    (case w9 => rfl)
    (case w10 => rfl)
    (case ne => decide)
    (case nK => kernel_rfl)
    (case tab => exact PySem.W.km_tabs_of Y _ (by decide))
    (case MN => exact (My.made_mk (P := PySem.Challenge.rw_freelots_k01_rows_made.prog) (x := "NoRow") (fld := "row") KX G (by k_is) (by k_is) (by k_is) (by k_is) (by k_is) (by k_is) (by k_is) (by k_is) (by k_is) (by k_is) (by k_is) (by k_is) (by k_is) (by k_is) (by k_is) (by k_is) (by k_is) (My.excF_mk (by k_is) (by k_is) (by k_is) (by k_is) (by k_is) (by k_is) (by k_is) (by k_is)) rfl rfl rfl (by decide +kernel) rfl ⟨rfl, rfl, rfl, by decide +kernel, rfl, rfl, rfl, rfl⟩ (by decide +kernel) (by decide +kernel) (by decide +kernel) rfl (by kernel_rfl) (fun us hl => match us, hl with | [_, _], _ => rfl) (fun _ _ => rfl)))
    (case sN => k_is)
    (case haC => k_is)
    (case hnC => k_is)
    (case tkC => k_is)
    (case hmC => k_is)
    (case neC => k_is)
    (case nlC => kernel_rfl)
    (case aFI => k_is)
    (case lFI => k_is)
    (case vFI => exact .cons ⟨_, rfl⟩ (.cons ⟨_, rfl⟩ (.cons ⟨_, rfl⟩ (.cons ⟨_, rfl⟩ (.cons ⟨_, rfl⟩ (.cons ⟨_, rfl⟩ (.cons ⟨_, rfl⟩ .nil)))))))
    (case zisinstance => k_is)
    (case zint => k_is)
    (case zbool => k_is)
    (case zlist => k_is)
    (case ztuple => k_is)
    (case zlen => k_is)
    (case zall => k_is)
    (case zany => k_is)
    (case zenumerate => k_is)
    (case zstr => k_is)
    (case zrange => k_is)
    (case zrepr => k_is)
